"""The house: how many rooms there are of each kind."""

MOST_KINDS = 6
MOST_OF_A_KIND = 9


def is_house(counts):
    """Whether a list of numbers tells a house."""
    if not 1 <= len(counts) <= MOST_KINDS:
        return False
    return all([0 <= count <= MOST_OF_A_KIND for count in counts])


def room_count(counts):
    """How many rooms the house has."""
    return sum(counts)


def first_room(counts, kind):
    """How many rooms are of lesser kinds: the number of the first room of a kind, if it has one."""
    # An index below 0 would count from the best kind down: no kind is less than kind 0.
    return sum(counts[:max(0, kind)])


def kind_of(counts, room):
    """The kind of a room that there is (None of a number behind the last room)."""
    behind = 0
    for kind, count in enumerate(counts):
        behind += count
        if room < behind:
            return kind
    return None


def rooms_of(counts, kind):
    """The rising list of the rooms of a kind."""
    # An index below 0 would count from the best kind down: there is no such kind.
    if not 0 <= kind < len(counts):
        return []
    start = first_room(counts, kind)
    return list(range(start, start + counts[kind]))
