"""The inn: what was promised and closed, and the way back."""

from innkinds.errors import BadHouse, BadSpan, Full, NoClosing, NoPromise, NoWayBack
from innkinds.houses import is_house
from innkinds.needs import is_span, short_night
from innkinds.plans import plan


class Inn:
    """A house with promises and closings."""

    def __init__(self, counts):
        if not is_house(counts):
            raise BadHouse("the counts are no house")
        self._counts = list(counts)
        self._stays = {}
        self._shut = {}
        self._next_stay = 0
        self._next_shut = 0
        self._past = []

    def promise(self, first, last, kind):
        """Promise a room of a kind or better from first up to last; the promise's number."""
        self._check_span(first, last, kind)
        number = self._next_stay
        stays = {**self._stays, number: (first, last, kind)}
        self._check_needs(self._shut, stays)
        self._remember()
        self._stays = stays
        self._next_stay = number + 1
        return number

    def close(self, first, last, kind):
        """Close all rooms of a kind from first up to last; the closing's number."""
        self._check_span(first, last, kind)
        number = self._next_shut
        shut = {**self._shut, number: (first, last, kind)}
        self._check_needs(shut, self._stays)
        self._remember()
        self._shut = shut
        self._next_shut = number + 1
        return number

    def drop(self, number):
        """Take a promise away."""
        if number not in self._stays:
            raise NoPromise(f"there is no promise {number}")
        self._remember()
        self._stays = {other: self._stays[other] for other in self._stays if other != number}

    def reopen(self, number):
        """Take a closing away."""
        if number not in self._shut:
            raise NoClosing(f"there is no closing {number}")
        self._remember()
        self._shut = {other: self._shut[other] for other in self._shut if other != number}

    def undo(self):
        """Take back the last deed that was done and not taken back."""
        if not self._past:
            raise NoWayBack("there is no deed to take back")
        self._stays, self._shut, self._next_stay, self._next_shut = self._past.pop()

    def promises(self):
        """A dict from the numbers of the promises, rising, to their spans."""
        return dict(self._stays)

    def closings(self):
        """A dict from the numbers of the closings, rising, to their spans."""
        return dict(self._shut)

    def nights(self):
        """The plan: the rooms, the moved and a paper of each night."""
        return plan(self._counts, self._shut, self._stays)

    def rooms_for(self, number):
        """The rooms of a promise, night by night from its first night on."""
        if number not in self._stays:
            raise NoPromise(f"there is no promise {number}")
        first, last, _ = self._stays[number]
        return [night[0][number] for night in self.nights()[first:last]]

    def _check_span(self, first, last, kind):
        """Refuse what is no span of the house."""
        if not is_span(self._counts, first, last, kind):
            raise BadSpan(f"from {first} up to {last}, kind {kind}, is no span")

    def _check_needs(self, shut, stays):
        """Refuse closings and stays that leave a kind short on some night."""
        short = short_night(self._counts, shut, stays)
        if short is not None:
            night, kind = short
            raise Full(night, kind)

    def _remember(self):
        """Keep all as it is for undo; the dicts here are replaced by deeds, never changed."""
        self._past.append((self._stays, self._shut, self._next_stay, self._next_shut))
