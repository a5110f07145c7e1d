"""What the document's points say of nights and plans, put together in the plainest way, for the tests."""

import itertools

# Rising numbers that people get in another order, so that an answer has to sort them.
NUMBERS = [7, 0, 12, 3]
GONE = 5

SMALL_HOUSES = [[0], [2], [1, 2], [2, 0], [0, 2], [1, 1, 1], [2, 0, 1], [0, 1, 2], [2, 1, 1], [1, 0, 0, 2],
                [1, 1, 1, 1]]


def kinds_by_room(counts):
    return [kind for kind, count in enumerate(counts) for _ in range(count)]


def every_paper(counts):
    for many in range(len(counts) + 1):
        for paper in itertools.combinations(range(len(counts)), many):
            yield list(paper)


def least_short_kind(counts, rooms, wants):
    """Point 4."""
    house = kinds_by_room(counts)
    for kind in range(len(counts)):
        if sum(want >= kind for want in wants.values()) > sum(house[room] >= kind for room in rooms):
            return kind
    return None


def number_of(counts, rooms, wants, ahead, paper):
    """Point 7, sentence by sentence."""
    house = kinds_by_room(counts)
    driven = [n for n in wants if n in ahead and ahead[n] not in rooms]
    rest = [n for n in wants if n in ahead and n not in driven]
    standing = {kind: [n for n in rest if wants[n] < kind <= house[ahead[n]]] for kind in paper}
    number = len(driven)
    for kind in paper:
        number += len([n for n in wants if wants[n] >= kind])
        number += len(standing[kind])
        number -= len([room for room in rooms if house[room] >= kind])
    for n in rest:
        ways = [kind for kind in paper if n in standing[kind]]
        if len(ways) >= 2:
            number -= len(ways) - 1
    return number


def moved_of(given, ahead):
    return [n for n in sorted(given) if n in ahead and ahead[n] != given[n]]


def every_way(counts, rooms, wants):
    """All ways to give each want a room of its own, of its kind or better, one after the other."""
    house = kinds_by_room(counts)
    numbers = sorted(wants)
    for picked in itertools.permutations(rooms, len(numbers)):
        if all(house[room] >= wants[n] for n, room in zip(numbers, picked)):
            yield dict(zip(numbers, picked))


def fewest_moves(counts, rooms, wants, ahead):
    """The fewest moves of all ways, or None where there is no way."""
    return min((len(moved_of(given, ahead)) for given in every_way(counts, rooms, wants)), default=None)


def every_crowd(counts, most):
    """All small crowds: a list of a want and a room ahead (or None) for each, in a fixed order."""
    house = kinds_by_room(counts)
    people = [(want, room) for want in range(len(counts))
              for room in [None] + [room for room, kind in enumerate(house) if kind >= want]]
    for many in range(most + 1):
        for crowd in itertools.combinations_with_replacement(people, many):
            had = [room for _, room in crowd if room is not None]
            if len(had) == len(set(had)):
                yield crowd


def small_nights(most=4):
    """Many small nights: house, rooms, wants, ahead. On every second one others have gone."""
    for counts in SMALL_HOUSES:
        every = list(range(sum(counts)))
        for many in range(len(every) + 1):
            for rooms in itertools.combinations(every, many):
                for at, crowd in enumerate(every_crowd(counts, min(most, len(every) + 1))):
                    wants = {NUMBERS[n]: want for n, (want, _) in enumerate(crowd)}
                    ahead = {NUMBERS[n]: room for n, (_, room) in enumerate(crowd) if room is not None}
                    left = [room for room in every if room not in ahead.values()]
                    if at % 2 and left:
                        ahead[GONE] = left[at % len(left)]
                    yield list(counts), list(rooms), wants, ahead


class Dice:
    """Numbers that look like chance, the same ones each time."""

    def __init__(self, seed):
        self.state = seed

    def below(self, many):
        self.state = (self.state * 6364136223846793005 + 1442695040888963407) % 2 ** 64
        return (self.state >> 33) % many


def great_night(seed, most_people=20, most_kinds=6, most_rooms=9):
    """A night as big as can be, full or not: house, rooms, wants, ahead."""
    dice = Dice(seed)
    counts = [dice.below(most_rooms + 1) for _ in range(1 + dice.below(most_kinds))]
    house = kinds_by_room(counts)
    wants, ahead, taken = {}, {}, set()
    for _ in range(dice.below(most_people + 1)):
        number = dice.below(1000) - 300
        if number in wants:
            continue
        wants[number] = dice.below(len(counts)) * dice.below(3) // 2
        good = [room for room, kind in enumerate(house) if kind >= wants[number] and room not in taken]
        if good and dice.below(5):
            ahead[number] = good[dice.below(len(good))]
            taken.add(ahead[number])
    closed = [kind for kind in range(len(counts)) if not dice.below(4)]
    rooms = [room for room, kind in enumerate(house) if kind not in closed and dice.below(8)]
    return counts, rooms, wants, ahead


def crowded_night(seed):
    """A night that isn't short, with few rooms to spare, after one with guests in far better rooms."""
    dice = Dice(seed + 10 ** 6)
    counts = [dice.below(4) for _ in range(3 + dice.below(4))]
    house = kinds_by_room(counts)
    closed = [kind for kind in range(len(counts)) if not dice.below(12)]
    rooms = [room for room, kind in enumerate(house) if kind not in closed]
    # Each want could have the room that it is made from, so there is a way.
    wants = {100 + dice.below(9) - 10 * at: max(0, house[room] - max(0, dice.below(6) - 3))
             for at, room in enumerate(rooms) if dice.below(12)}
    ahead, left = {}, list(range(len(house)))
    for number in wants:
        good = [room for room in left if house[room] >= wants[number]]
        if good and dice.below(4):
            ahead[number] = good[dice.below(len(good))]
            left.remove(ahead[number])
    return counts, rooms, wants, ahead


def check_night(case, night, told):
    """All that point 6 says of what was told, but for how few moves there can be at all."""
    counts, rooms, wants, ahead = night
    house = kinds_by_room(counts)
    case.assertIs(type(told), tuple, night)
    given, moved, paper = told
    case.assertEqual((type(given), type(moved), type(paper)), (dict, list, list), night)
    case.assertEqual(list(given), sorted(wants), night)
    case.assertEqual(len(set(given.values())), len(given), (night, given))
    for number, room in given.items():
        case.assertIn(room, rooms, (night, given))
        case.assertGreaterEqual(house[room], wants[number], (night, given))
    case.assertEqual(moved, moved_of(given, ahead), (night, told))
    case.assertEqual(paper, sorted(set(paper)), (night, paper))
    for kind in paper:
        case.assertIn(kind, range(len(counts)), (night, paper))
    case.assertEqual(number_of(counts, rooms, wants, ahead, paper), len(moved), (night, told))


def night_by_words(counts, closings, stays, night):
    """The open rooms and the wants of a night, by point 4."""
    closed = [kind for first, last, kind in closings.values() if first <= night < last]
    rooms = [room for room, kind in enumerate(kinds_by_room(counts)) if kind not in closed]
    return rooms, {n: kind for n, (first, last, kind) in stays.items() if first <= night < last}


def first_short(counts, closings, stays):
    """The first night with a short kind and its least such kind, or None."""
    for night in range(40):
        kind = least_short_kind(counts, *night_by_words(counts, closings, stays, night))
        if kind is not None:
            return night, kind
    return None


def check_plan(case, counts, closings, stays, told):
    """All that point 9 says of a plan, but for how few moves there can be at all."""
    case.assertIs(type(told), list)
    nights = max((last for _, last, _ in stays.values()), default=0)
    case.assertEqual(len(told), nights)
    ahead = {}
    for night in range(nights):
        rooms, wants = night_by_words(counts, closings, stays, night)
        check_night(case, (counts, rooms, wants, ahead), told[night])
        ahead = told[night][0]
