"""One night: rooms for all who want one, with the fewest moves, and a paper that shows it."""

from innkinds.errors import Full
from innkinds.houses import first_room
from innkinds.needs import lacking, short_kind
from innkinds.papers import best_paper, in_the_way, not_driven_out


def who_stays(counts, rooms, wants, ahead):
    """The guests who keep their rooms, as many as can: a dict from their numbers to the rooms."""
    staying = not_driven_out(rooms, wants, ahead)
    for kind in range(len(counts)):
        standing = in_the_way(counts, wants, staying, kind)
        many = max(0, lacking(counts, rooms, wants, kind) + len(standing))
        # All lesser kinds have enough by now, so it is best to free the best rooms: whoever has
        # one stands in the way of the most kinds that are yet to come.
        leaving = sorted(standing, key=lambda number: staying[number], reverse=True)[:many]
        staying = {number: staying[number] for number in staying if number not in leaving}
    return staying


def give_rooms(counts, rooms, wants, staying):
    """A dict from the numbers of the wants, rising, to rooms; the staying keep theirs."""
    given = dict(staying)
    taken = list(staying.values())
    free = [room for room in rooms if room not in taken]
    others = [number for number in wants if number not in staying]
    # Whoever wants more chooses first. Each room that is good enough for them is good enough for all
    # behind, too, so these lack no room whichever one is taken.
    for number in sorted(others, key=lambda other: (-wants[other], other)):
        start = first_room(counts, wants[number])
        good = [room for room in free if room >= start]
        # There is none only where the kind itself is none of the house.
        if good:
            given[number] = good[0]
            free.remove(good[0])
    return {number: given[number] for number in sorted(given)}


def tonight(counts, rooms, wants, ahead):
    """The rooms of a night, who is moved, and a paper that shows that fewer can't be."""
    kind = short_kind(counts, rooms, wants)
    if kind is not None:
        raise Full(None, kind)
    staying = who_stays(counts, rooms, wants, ahead)
    given = give_rooms(counts, rooms, wants, staying)
    moved = [number for number in given if number in ahead and ahead[number] != given[number]]
    return given, moved, best_paper(counts, rooms, wants, ahead)
