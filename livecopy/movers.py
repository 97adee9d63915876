"""Movers: they move a live copy around the requests of a run."""

from livecopy.errors import BadPlan, CannotToggle, CopyPinned, UnknownPatch
from livecopy.keeper import Keeper, check_bound
from livecopy.requests import check_look, check_toggle


class Mover:
    """Never moves the copy. The methods return the patches that were toggled."""

    def before(self, copy, version, index):
        """Move the copy ahead of a request."""
        return []

    def after(self, copy, version, index):
        """Move the copy behind a request."""
        return []


class Follow(Mover):
    """Leads the copy to each requested version."""

    def before(self, copy, version, index):
        """Lead the copy to the version."""
        return copy.lead(version)

    def after(self, copy, version, index):
        """Do nothing."""
        return []


class Kept(Mover):
    """Leads the copy to where a keeper stands that hears each request."""

    def __init__(self, bound, look=1, toggle=1):
        check_bound(bound)
        check_look(look)
        check_toggle(toggle)
        self._bound = bound
        self._look_price = look
        self._toggle_price = toggle
        # It is made at the first request, for the book of the copy.
        self._keeper = None

    def before(self, copy, version, index):
        """Do nothing."""
        return []

    def after(self, copy, version, index):
        """Let the keeper hear the request, and lead the copy to its home."""
        keeper = self._keeper
        if keeper is None:
            keeper = Keeper(copy.book, (), bound=self._bound, look=self._look_price, toggle=self._toggle_price)
        state = keeper.state()
        keeper.request(version)
        try:
            toggled = copy.lead(keeper.home)
        except CopyPinned:
            # The call is refused, so the keeper is to be as if it had not heard the request.
            self._keeper = Keeper.resumed(
                copy.book, state, bound=self._bound, look=self._look_price, toggle=self._toggle_price)
            raise
        self._keeper = keeper
        return toggled


class Planned(Mover):
    """Leads the copy to the entry of a plan ahead of each request."""

    def __init__(self, homes):
        self._homes = list(homes)

    def before(self, copy, version, index):
        """Lead the copy to the entry for this request, if there is one."""
        if index >= len(self._homes):
            return []
        home = self._homes[index]
        if home not in copy.book:
            raise BadPlan(index)
        return copy.lead(home)

    def after(self, copy, version, index):
        """Do nothing."""
        return []


class Toggles(Mover):
    """Toggles the listed patches ahead of each request, as far as that is possible."""

    def __init__(self, lists):
        self._lists = [list(numbers) for numbers in lists]

    def before(self, copy, version, index):
        """Try to toggle the patches that are listed for this request."""
        toggled = []
        if index < len(self._lists):
            for number in self._lists[index]:
                if _has_toggled(copy, number):
                    toggled.append(number)
        return toggled

    def after(self, copy, version, index):
        """Do nothing."""
        return []


def _has_toggled(copy, number):
    """Toggle a patch and return True, or return False if that is not possible."""
    try:
        copy.toggle(number)
    except (UnknownPatch, CopyPinned, CannotToggle):
        return False
    return True
