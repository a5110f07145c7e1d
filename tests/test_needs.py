"""Spans, wants, open rooms and short kinds: points 3, 4, 5, 9."""

import itertools
import unittest

from innkinds.houses import kind_of
from innkinds.needs import is_span, rooms_on, short_kind, short_night, wants_on

FAR = 10 ** 30
BEYOND = [-FAR, -41, -2, -1, 40, 41, 80, FAR]


def can_all_have_rooms(counts, rooms, wants):
    """Whether each want can have a room of its own, found by trying and making way."""
    held = {}

    def find(number, tried):
        for room in rooms:
            if room not in tried and kind_of(counts, room) >= wants[number]:
                tried.add(room)
                if room not in held or find(held[room], tried):
                    held[room] = number
                    return True
        return False

    return all([find(number, set()) for number in wants])


def short_kinds(counts, rooms, wants):
    """All kinds that are short, by the words of point 4."""
    return [kind for kind in range(len(counts))
            if sum(want >= kind for want in wants.values())
            > sum(kind_of(counts, room) >= kind for room in rooms)]


class IsSpanTest(unittest.TestCase):
    def test_spans(self):
        for first, last, kind in [(0, 1, 0), (0, 40, 0), (39, 40, 2), (3, 8, 1), (12, 13, 2)]:
            self.assertIs(is_span([1, 2, 3], first, last, kind), True, (first, last, kind))

    def test_no_nights(self):
        for first, last in [(0, 0), (5, 5), (39, 39), (40, 40), (6, 5), (39, 0)]:
            self.assertIs(is_span([1, 2, 3], first, last, 0), False, (first, last))

    def test_from_below_the_first_night(self):
        for first, last in [(-1, 0), (-1, 5), (-2, -1), (-1, 40), (-FAR, 3)]:
            self.assertIs(is_span([1, 2, 3], first, last, 0), False, (first, last))

    def test_up_to_the_last_night_and_beyond(self):
        for last, good in [(39, True), (40, True), (41, False), (42, False), (FAR, False)]:
            self.assertIs(is_span([1, 2, 3], 7, last, 0), good, last)
        self.assertIs(is_span([1, 2, 3], 40, 41, 0), False)
        self.assertIs(is_span([1, 2, 3], FAR, FAR + 1, 0), False)

    def test_kind_of_the_house(self):
        for many in range(1, 7):
            for kind in [-FAR, -many, -2, -1, 0, 1, 2, 3, 4, 5, 6, 7, FAR]:
                self.assertIs(is_span([1] * many, 2, 4, kind), 0 <= kind < many, (many, kind))

    def test_kind_without_a_room_is_a_kind(self):
        self.assertIs(is_span([0, 2, 0], 2, 4, 0), True)
        self.assertIs(is_span([0, 2, 0], 2, 4, 2), True)


class WantsOnTest(unittest.TestCase):
    def test_first_night_last_night_and_the_one_behind(self):
        stays = {4: (3, 6, 2)}
        told = [wants_on(stays, night) for night in range(8)]
        self.assertEqual(told, [{}, {}, {}, {4: 2}, {4: 2}, {4: 2}, {}, {}])

    def test_one_night(self):
        self.assertEqual([wants_on({0: (5, 6, 0)}, night) for night in [4, 5, 6]], [{}, {0: 0}, {}])

    def test_all_nights(self):
        for night in range(40):
            self.assertEqual(wants_on({0: (0, 40, 1)}, night), {0: 1}, night)

    def test_nothing_is_wanted_beyond(self):
        for night in BEYOND:
            self.assertEqual(wants_on({0: (0, 40, 1), 1: (0, 1, 0), 2: (39, 40, 2)}, night), {}, night)

    def test_nothing_is_wanted_beyond_where_stays_go_beyond(self):
        for night in [-2, -1, 40, 41]:
            self.assertEqual(wants_on({0: (-5, 50, 1)}, night), {}, night)
        self.assertEqual(wants_on({0: (-5, 50, 1)}, 0), {0: 1})
        self.assertEqual(wants_on({0: (-5, 50, 1)}, 39), {0: 1})

    def test_no_stays(self):
        self.assertEqual(wants_on({}, 3), {})

    def test_numbers_rise_whatever_the_order(self):
        spans = {3: (0, 4, 1), 0: (2, 9, 0), 11: (1, 3, 2), 2: (2, 3, 2), 7: (3, 8, 0)}
        for order in itertools.permutations(spans):
            stays = {number: spans[number] for number in order}
            self.assertEqual(list(wants_on(stays, 2).items()), [(0, 0), (2, 2), (3, 1), (11, 2)])

    def test_numbers_that_are_negative_or_far(self):
        stays = {FAR: (0, 4, 1), -1: (0, 4, 0), 5: (0, 4, 2), -FAR: (0, 4, 1)}
        self.assertEqual(list(wants_on(stays, 0).items()), [(-FAR, 1), (-1, 0), (5, 2), (FAR, 1)])

    def test_twenty_stays(self):
        stays = {number: (number, number + 20, number % 3) for number in range(19, -1, -1)}
        self.assertEqual(list(wants_on(stays, 19).items()), [(n, n % 3) for n in range(20)])
        self.assertEqual(list(wants_on(stays, 21).items()), [(n, n % 3) for n in range(2, 20)])


class RoomsOnTest(unittest.TestCase):
    def test_first_night_last_night_and_the_one_behind(self):
        closings = {0: (3, 6, 1)}
        told = [rooms_on([1, 2, 1], closings, night) for night in range(2, 8)]
        self.assertEqual(told, [[0, 1, 2, 3], [0, 3], [0, 3], [0, 3], [0, 1, 2, 3], [0, 1, 2, 3]])

    def test_all_is_open_without_closings(self):
        self.assertEqual(rooms_on([1, 2, 1], {}, 0), [0, 1, 2, 3])
        self.assertEqual(rooms_on([9] * 6, {}, 39), list(range(54)))
        self.assertEqual(rooms_on([0, 0], {}, 5), [])

    def test_all_nights(self):
        for night in range(40):
            self.assertEqual(rooms_on([1, 2, 1], {0: (0, 40, 0)}, night), [1, 2, 3], night)

    def test_all_is_open_beyond(self):
        closings = {0: (0, 40, 0), 1: (0, 1, 1), 2: (39, 40, 2)}
        for night in BEYOND:
            self.assertEqual(rooms_on([1, 2, 1], closings, night), [0, 1, 2, 3], night)

    def test_all_is_open_beyond_where_closings_go_beyond(self):
        for night in [-2, -1, 40, 41]:
            self.assertEqual(rooms_on([1, 2], {0: (-5, 50, 1)}, night), [0, 1, 2], night)
        self.assertEqual(rooms_on([1, 2], {0: (-5, 50, 1)}, 0), [0])
        self.assertEqual(rooms_on([1, 2], {0: (-5, 50, 1)}, 39), [0])

    def test_each_kind_closed(self):
        told = [rooms_on([2, 1, 3], {0: (0, 1, kind)}, 0) for kind in range(3)]
        self.assertEqual(told, [[2, 3, 4, 5], [0, 1, 3, 4, 5], [0, 1, 2]])

    def test_all_kinds_closed(self):
        self.assertEqual(rooms_on([2, 1, 3], {k: (0, 9, k) for k in range(3)}, 8), [])

    def test_kind_closed_twice(self):
        closings = {0: (0, 5, 1), 1: (3, 9, 1)}
        told = [rooms_on([1, 1], closings, night) for night in [0, 3, 4, 5, 8, 9]]
        self.assertEqual(told, [[0], [0], [0], [0], [0], [0, 1]])

    def test_closed_kind_without_a_room(self):
        self.assertEqual(rooms_on([2, 0, 1], {0: (0, 5, 1)}, 2), [0, 1, 2])

    def test_rooms_rise_whatever_the_order_and_the_numbers(self):
        spans = {5: (0, 4, 2), -3: (1, 3, 0), FAR: (2, 9, 4), 0: (5, 6, 1), -FAR: (2, 3, 2)}
        for order in itertools.permutations(spans):
            closings = {number: spans[number] for number in order}
            self.assertEqual(rooms_on([2, 1, 2, 1, 1, 2], closings, 2), [2, 5, 7, 8])

    def test_eighteen_closings(self):
        closings = {n: (2 * n, 2 * n + 1, n % 2) for n in range(18)}
        told = [rooms_on([1, 2], closings, night) for night in range(38)]
        self.assertEqual(told[:5], [[1, 2], [0, 1, 2], [0], [0, 1, 2], [1, 2]])
        self.assertEqual(told[34:], [[0], [0, 1, 2], [0, 1, 2], [0, 1, 2]])


class ShortKindTest(unittest.TestCase):
    def test_none_is_short(self):
        self.assertIsNone(short_kind([1, 1], [0, 1], {0: 0, 1: 1}))
        self.assertIsNone(short_kind([1, 1], [0, 1], {}))
        self.assertIsNone(short_kind([0], [], {}))

    def test_better_rooms_will_do(self):
        self.assertIsNone(short_kind([0, 0, 2], [0, 1], {0: 0, 1: 1}))

    def test_lesser_rooms_will_not_do(self):
        self.assertEqual(short_kind([9, 1], list(range(10)), {0: 1, 1: 1}), 1)

    def test_one_kind(self):
        self.assertIsNone(short_kind([2], [0, 1], {4: 0, 7: 0}))
        self.assertEqual(short_kind([2], [0, 1], {4: 0, 7: 0, 8: 0}), 0)
        self.assertEqual(short_kind([2], [1], {4: 0, 7: 0}), 0)

    def test_the_least_of_several(self):
        self.assertEqual(short_kind([1, 1, 1], [0, 1, 2], {0: 2, 1: 2, 2: 2}), 1)
        self.assertEqual(short_kind([0, 0, 0], [], {0: 2}), 0)
        self.assertEqual(short_kind([2, 0, 0, 0], [0, 1], {0: 3}), 1)

    def test_only_the_best_is_short(self):
        self.assertEqual(short_kind([3, 3, 1], list(range(7)), {0: 2, 1: 2}), 2)

    def test_only_one_between_is_short(self):
        self.assertEqual(short_kind([3, 1, 1], list(range(5)), {0: 1, 1: 1, 2: 2}), 1)

    def test_only_open_rooms_count(self):
        self.assertIsNone(short_kind([2, 2], [0, 1, 2], {0: 1, 1: 0}))
        self.assertEqual(short_kind([2, 2], [0, 1], {0: 1, 1: 0}), 1)
        self.assertEqual(short_kind([2, 2], [3], {0: 1, 1: 0}), 0)

    def test_six_kinds(self):
        wants = {number: number % 6 for number in range(6)}
        self.assertIsNone(short_kind([1] * 6, list(range(6)), wants))
        for kind in range(6):
            rooms = [room for room in range(6) if room != kind]
            self.assertEqual(short_kind([1] * 6, rooms, wants), 0, kind)
            self.assertEqual(short_kind([1] * 6, list(range(6)), {0: kind, 1: 5, 2: 5}),
                             5 if kind < 4 else 4, kind)

    def test_numbers_of_wants_do_not_matter(self):
        self.assertEqual(short_kind([1, 1], [0, 1], {FAR: 1, -FAR: 1, -1: 0}), 0)
        self.assertIsNone(short_kind([1, 1], [0, 1], {FAR: 1, -7: 0}))

    def test_all_small_nights(self):
        """Each answer is the least kind by point 4, and None just where all can have rooms (5)."""
        seen = set()
        for counts in itertools.product(range(3), repeat=3):
            counts = list(counts)
            every = list(range(sum(counts)))
            for many in range(len(every) + 1):
                for rooms in itertools.combinations(every, many):
                    seen.update(self.check_wants(counts, list(rooms)))
        self.assertEqual(seen, {None, 0, 1, 2})

    def check_wants(self, counts, rooms):
        told = set()
        for many in range(4):
            for kinds in itertools.combinations_with_replacement(range(3), many):
                wants = dict(enumerate(kinds))
                kind = short_kind(counts, rooms, wants)
                self.assertEqual(kind, min(short_kinds(counts, rooms, wants), default=None),
                                 (counts, rooms, wants))
                self.assertEqual(kind is None, can_all_have_rooms(counts, rooms, wants),
                                 (counts, rooms, wants))
                told.add(kind)
        return told


class ShortNightTest(unittest.TestCase):
    def test_none_is_short(self):
        self.assertIsNone(short_night([1, 1], {}, {}))
        self.assertIsNone(short_night([0, 0], {0: (0, 40, 1)}, {}))
        self.assertIsNone(short_night([1, 1], {0: (0, 5, 1)}, {0: (5, 9, 1), 1: (0, 40, 0)}))

    def test_first_of_several_nights(self):
        stays = {0: (4, 20, 0), 1: (9, 12, 0), 2: (7, 8, 0)}
        self.assertEqual(short_night([1], {}, stays), (7, 0))

    def test_first_night_and_least_kind(self):
        # On night 6 only kind 2 is short; from night 8 on kind 0 is, too.
        stays = {0: (2, 12, 2), 1: (6, 12, 2), 2: (8, 12, 0), 3: (8, 12, 0), 4: (8, 12, 0)}
        self.assertEqual(short_night([1, 1, 1], {}, stays), (6, 2))
        self.assertEqual(short_night([0, 1, 1], {}, {0: (3, 5, 2), 1: (3, 5, 2), 2: (3, 5, 0)}), (3, 0))

    def test_short_by_a_closing(self):
        stays = {0: (0, 40, 1)}
        self.assertEqual(short_night([2, 1], {0: (13, 15, 1)}, stays), (13, 1))
        self.assertIsNone(short_night([2, 1], {0: (13, 15, 0)}, stays))
        self.assertEqual(short_night([2, 1], {0: (13, 15, 0), 1: (12, 14, 1)}, stays), (12, 1))
        self.assertEqual(short_night([2, 1], {0: (12, 15, 0), 1: (12, 14, 1)}, stays), (12, 0))

    def test_first_and_last_night(self):
        self.assertEqual(short_night([0], {}, {0: (0, 1, 0)}), (0, 0))
        self.assertEqual(short_night([0], {}, {0: (39, 40, 0)}), (39, 0))
        self.assertEqual(short_night([1], {3: (39, 40, 0)}, {0: (0, 40, 0)}), (39, 0))

    def test_stays_that_follow_each_other(self):
        self.assertIsNone(short_night([1], {}, {0: (0, 5, 0), 1: (5, 9, 0), 2: (9, 40, 0)}))
        self.assertEqual(short_night([1], {}, {0: (0, 5, 0), 1: (4, 9, 0)}), (4, 0))

    def test_closing_that_ends_where_a_stay_begins(self):
        self.assertIsNone(short_night([1], {0: (0, 5, 0), 1: (9, 12, 0)}, {0: (5, 9, 0)}))
        self.assertEqual(short_night([1], {0: (0, 6, 0)}, {0: (5, 9, 0)}), (5, 0))
        self.assertEqual(short_night([1], {0: (8, 12, 0)}, {0: (5, 9, 0)}), (8, 0))

    def test_better_rooms_will_do(self):
        self.assertIsNone(short_night([0, 2], {}, {0: (0, 4, 0), 1: (0, 4, 1)}))

    def test_order_and_numbers_do_not_matter(self):
        stays = {FAR: (3, 9, 1), -1: (0, 5, 1), 0: (4, 6, 0)}
        closings = {7: (4, 9, 0), -FAR: (20, 30, 1)}
        for stays_order in itertools.permutations(stays):
            for closings_order in itertools.permutations(closings):
                told = short_night([1, 2], {n: closings[n] for n in closings_order},
                                   {n: stays[n] for n in stays_order})
                self.assertEqual(told, (4, 0))

    def test_it_tells_a_tuple(self):
        self.assertIs(type(short_night([0], {}, {0: (2, 3, 0)})), tuple)

    def test_nothing_is_short_beyond_the_nights(self):
        self.assertIsNone(short_night([0], {}, {0: (40, 45, 0), 1: (-5, 0, 0)}))

    def test_against_each_night_by_its_words(self):
        for at in range(60):
            counts = [at % 3, (at // 3) % 3, at % 2]
            stays = {n: ((at * 7 + n * 11) % 30, (at * 7 + n * 11) % 30 + 1 + (at + n) % 10, (at + n * 2) % 3)
                     for n in range(at % 6)}
            closings = {n: ((at * 5 + n * 9) % 35, (at * 5 + n * 9) % 35 + 1 + n, (at + n) % 3)
                        for n in range(at % 4)}
            self.assertEqual(short_night(counts, closings, stays), by_words(counts, closings, stays), at)


def by_words(counts, closings, stays):
    for night in range(40):
        wants = {n: kind for n, (first, last, kind) in stays.items() if night in range(first, last)}
        closed = [kind for first, last, kind in closings.values() if night in range(first, last)]
        rooms = [room for room in range(sum(counts)) if kind_of(counts, room) not in closed]
        kinds = short_kinds(counts, rooms, wants)
        if kinds:
            return night, kinds[0]
    return None


if __name__ == "__main__":
    unittest.main()
