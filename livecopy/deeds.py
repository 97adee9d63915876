"""The deeds of a desk as tuples and as lines."""

from livecopy.lines import parts_line

# What stands behind the first word of a deed.
DEEDS = {
    "put": ("name", "name", "values"),
    "loose": ("name", "name", "values"),
    "join": ("name", "name", "name"),
    "meet": ("name", "name", "name"),
    "without": ("name", "name", "name"),
    "drop": ("name",),
    "read": ("name", "number"),
    "collect": (),
}


def copied_deed(deed):
    """Return a copy of a deed through and through."""
    if deed[0] in ("put", "loose"):
        kind, name, source, writes = deed
        return kind, name, source, [tuple(write) for write in writes]
    return deed


def deed_line(deed):
    """Return the line of a deed."""
    return parts_line(deed, DEEDS[deed[0]])


def read_deed(line):
    """Return the deed of a line."""
    kind = line.take_word()
    if kind not in DEEDS:
        line.refuse()
    return (kind, *line.take_parts(DEEDS[kind]))
