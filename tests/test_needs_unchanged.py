"""Point 1 for the needs: what is handed in stays, and what is told is the asker's own."""

import copy
import unittest

from innkinds.needs import is_span, rooms_on, short_kind, short_night, wants_on

COUNTS = [2, 0, 1, 3]
STAYS = {5: (3, 9, 2), 0: (0, 4, 0), -2: (3, 40, 3), 10 ** 20: (3, 4, 0)}
CLOSINGS = {9: (2, 6, 3), 1: (0, 3, 0), -7: (4, 5, 0)}


class HandedInTest(unittest.TestCase):
    def setUp(self):
        self.counts = list(COUNTS)
        self.stays = dict(STAYS)
        self.closings = dict(CLOSINGS)

    def check(self):
        self.assertEqual(self.counts, COUNTS)
        # Their order is a part of what was handed in.
        self.assertEqual(list(self.stays.items()), list(STAYS.items()))
        self.assertEqual(list(self.closings.items()), list(CLOSINGS.items()))

    def test_is_span(self):
        is_span(self.counts, 3, 5, 2)
        is_span(self.counts, -3, 50, 20)
        self.check()

    def test_wants_on(self):
        for night in range(-1, 42):
            wants_on(self.stays, night)
        self.check()

    def test_rooms_on(self):
        for night in range(-1, 42):
            rooms_on(self.counts, self.closings, night)
        self.check()

    def test_short_kind(self):
        for rooms, wants in [([0, 2, 5], {3: 2, 0: 0}), ([], {3: 2, 0: 0}), ([1], {})]:
            kept = copy.deepcopy((rooms, list(wants.items())))
            short_kind(self.counts, rooms, wants)
            self.assertEqual((rooms, list(wants.items())), kept)
        self.check()

    def test_short_night(self):
        self.assertEqual(short_night(self.counts, self.closings, self.stays), (3, 0))
        self.check()
        self.assertIsNone(short_night(self.counts, {}, self.stays))
        self.check()


class ToldTest(unittest.TestCase):
    def test_told_wants_are_the_askers_own(self):
        stays = dict(STAYS)
        for night in [3, 20, 0, 40]:
            first = wants_on(stays, night)
            kept = dict(first)
            first[77] = 1
            first[5] = 0
            self.assertEqual(wants_on(stays, night), kept)
            first.clear()
            self.assertEqual(wants_on(stays, night), kept)
        self.assertEqual(stays, STAYS)

    def test_told_rooms_are_the_askers_own(self):
        closings = dict(CLOSINGS)
        for night in [0, 2, 4, 20, 40]:
            first = rooms_on(COUNTS, closings, night)
            kept = list(first)
            first.append(77)
            first.reverse()
            self.assertEqual(rooms_on(COUNTS, closings, night), kept)
            first.clear()
            self.assertEqual(rooms_on(COUNTS, closings, night), kept)
        self.assertEqual(closings, CLOSINGS)

    def test_told_rooms_without_closings_are_the_askers_own(self):
        rooms_on([1, 2], {}, 0).clear()
        self.assertEqual(rooms_on([1, 2], {}, 0), [0, 1, 2])

    def test_what_is_done_later_does_not_change_what_was_told(self):
        counts, stays, closings = list(COUNTS), dict(STAYS), dict(CLOSINGS)
        wants = wants_on(stays, 3)
        rooms = rooms_on(counts, closings, 3)
        counts[0] = 9
        stays.clear()
        closings.clear()
        wants_on(stays, 3)
        wants_on(STAYS, 20)
        rooms_on(counts, closings, 3)
        short_night(counts, CLOSINGS, STAYS)
        short_kind(COUNTS, rooms, wants)
        self.assertEqual(list(wants.items()), [(-2, 3), (0, 0), (5, 2), (10 ** 20, 0)])
        self.assertEqual(rooms, [0, 1, 2])

    def test_each_question_is_about_what_is_handed_in_now(self):
        counts, stays, closings = [1, 1], {0: (0, 5, 1)}, {}
        self.assertIsNone(short_night(counts, closings, stays))
        closings[0] = (2, 3, 1)
        self.assertEqual(short_night(counts, closings, stays), (2, 1))
        stays[0] = (3, 5, 1)
        self.assertIsNone(short_night(counts, closings, stays))
        self.assertEqual(wants_on(stays, 2), {})
        self.assertEqual(rooms_on(counts, closings, 2), [0])
        counts[1] = 0
        self.assertEqual(short_night(counts, closings, stays), (3, 1))


if __name__ == "__main__":
    unittest.main()
