"""What is wanted and what is open on a night, and whether that is enough."""

from innkinds.houses import first_room, rooms_of

NIGHTS = 40


def is_span(counts, first, last, kind):
    """Whether these numbers are a span of the house."""
    return 0 <= first < last <= NIGHTS and 0 <= kind < len(counts)


def kinds_on(spans, night):
    """A dict from the numbers of the spans that a night is one of, rising, to their kinds."""
    # Spans may go somewhat beyond the nights that there are; nothing happens there.
    if not 0 <= night < NIGHTS:
        return {}
    kinds = {}
    for number in sorted(spans):
        first, last, kind = spans[number]
        if first <= night < last:
            kinds[number] = kind
    return kinds


def wants_on(stays, night):
    """The wants of a night: a dict from the numbers of stays, rising, to their kinds."""
    return kinds_on(stays, night)


def rooms_on(counts, closings, night):
    """The rising list of the rooms that are open on a night."""
    closed = list(kinds_on(closings, night).values())
    rooms = []
    for kind in range(len(counts)):
        if kind not in closed:
            rooms.extend(rooms_of(counts, kind))
    return rooms


def lacking(counts, rooms, wants, kind):
    """How many more want a kind or better than there are rooms of it or better (below 0: spare)."""
    # The better a room is the greater is its number, so the rooms from here on will do.
    start = first_room(counts, kind)
    good = [room for room in rooms if room >= start]
    wanted = [want for want in wants.values() if want >= kind]
    return len(wanted) - len(good)


def short_kind(counts, rooms, wants):
    """The least kind with more wants than rooms of it or better, or None."""
    for kind in range(len(counts)):
        if lacking(counts, rooms, wants, kind) > 0:
            return kind
    return None


def short_night(counts, closings, stays):
    """The first night with a short kind and its least such kind, or None."""
    for night in range(NIGHTS):
        rooms = rooms_on(counts, closings, night)
        kind = short_kind(counts, rooms, wants_on(stays, night))
        if kind is not None:
            return night, kind
    return None
