"""Livecopy: one live copy of an immutable row of cells, requested in many versions."""
