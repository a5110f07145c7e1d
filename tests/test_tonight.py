"""One night: points 5, 6 and 8."""

import copy
import itertools
import unittest

from innkinds.errors import Full, InnError
from innkinds.tonight import tonight

from by_words import (check_night, crowded_night, every_way, fewest_moves, great_night, least_short_kind, moved_of,
                      small_nights)


class NightTest(unittest.TestCase):
    def told(self, counts, rooms, wants, ahead):
        """What is told of a night by hand: checked by point 6 and against all ways to give rooms."""
        night = (counts, rooms, wants, ahead)
        told = tonight(*night)
        check_night(self, night, told)
        self.assertEqual(len(told[1]), fewest_moves(*night), night)
        return told

    def refused(self, counts, rooms, wants, ahead, kind):
        with self.assertRaises(Full) as caught:
            tonight(counts, rooms, wants, ahead)
        self.assertIs(type(caught.exception), Full)
        self.assertIsNone(caught.exception.night)
        self.assertEqual(caught.exception.kind, kind)


class PlainNightsTest(NightTest):
    def test_nobody_wants_a_room(self):
        self.assertEqual(self.told([2, 1], [0, 1, 2], {}, {})[:2], ({}, []))
        self.assertEqual(self.told([2, 1], [], {}, {4: 0, 5: 2})[:2], ({}, []))
        self.assertEqual(self.told([0, 0], [], {}, {})[:2], ({}, []))

    def test_all_are_new(self):
        given, moved, _ = self.told([1, 1, 1], [0, 1, 2], {2: 0, 0: 2, 1: 1}, {})
        self.assertEqual((given, moved), ({0: 2, 1: 1, 2: 0}, []))

    def test_all_stay(self):
        ahead = {3: 1, 0: 0, 1: 2}
        given, moved, _ = self.told([2, 2], [0, 1, 2, 3], {1: 0, 3: 0, 0: 0}, ahead)
        self.assertEqual((given, moved), (ahead, []))

    def test_guests_stay_in_better_rooms_than_they_want(self):
        given, moved, _ = self.told([2, 1, 1], [0, 1, 2, 3], {0: 0, 1: 0, 2: 0}, {0: 3, 1: 2})
        self.assertEqual((given[0], given[1], moved), (3, 2, []))

    def test_new_ones_take_better_rooms_where_theirs_are_taken(self):
        given, moved, _ = self.told([1, 0, 1], [0, 1], {0: 0, 1: 0}, {0: 0})
        self.assertEqual((given, moved), ({0: 0, 1: 1}, []))

    def test_rooms_of_those_who_have_gone_are_free(self):
        given, moved, _ = self.told([1, 1], [0, 1], {5: 0, 6: 1}, {0: 0, 1: 1, 5: 9})
        self.assertEqual((given, moved), ({5: 0, 6: 1}, [5]))
        given, moved, _ = self.told([1, 1], [0, 1], {5: 0, 6: 1}, {0: 0, 1: 1})
        self.assertEqual((given, moved), ({5: 0, 6: 1}, []))

    def test_driven_out(self):
        given, moved, _ = self.told([2, 1], [0, 1], {0: 0, 1: 0}, {0: 0, 1: 2})
        self.assertEqual((given, moved), ({0: 0, 1: 1}, [1]))

    def test_all_are_driven_out(self):
        given, moved, _ = self.told([2, 2], [2, 3], {8: 0, 3: 0}, {8: 0, 3: 1})
        self.assertEqual((sorted(given.values()), moved), ([2, 3], [3, 8]))

    def test_a_room_of_a_kind_is_closed_alone(self):
        # rooms is any rising list of rooms, not of whole kinds alone.
        given, moved, _ = self.told([3], [0, 2], {0: 0, 1: 0}, {0: 1, 1: 2})
        self.assertEqual((given, moved), ({0: 0, 1: 2}, [0]))

    def test_one_in_the_way(self):
        given, moved, _ = self.told([1, 1], [0, 1], {0: 0, 1: 1}, {0: 1})
        self.assertEqual((given, moved), ({0: 0, 1: 1}, [0]))

    def test_just_as_many_as_needed_leave(self):
        _, moved, _ = self.told([3, 3], list(range(6)), {0: 0, 1: 0, 2: 0, 3: 1}, {0: 3, 1: 4, 2: 5})
        self.assertEqual(len(moved), 1)
        _, moved, _ = self.told([3, 3], list(range(6)), {0: 0, 1: 0, 2: 0, 3: 1, 4: 1}, {0: 3, 1: 4, 2: 5})
        self.assertEqual(len(moved), 2)

    def test_numbers_rise_whatever_their_order(self):
        wants = {9: 0, -4: 1, 10 ** 20: 0, 2: 1}
        for order in itertools.permutations(wants):
            given, moved, _ = self.told([2, 2], [0, 1, 2, 3], {n: wants[n] for n in order}, {9: 3, -4: 2, 2: 9})
            self.assertEqual(list(given), [-4, 2, 9, 10 ** 20])
            self.assertEqual(moved, [2, 9])


class ChainTest(NightTest):
    """Where one stays, another one can't."""

    def test_it_is_better_to_move_one_who_stands_in_two_ways(self):
        # 1 and 2 are new in kinds 1 and 2; 0 stands in both ways, 3 in one.
        given, moved, _ = self.told([2, 2, 1], [0, 1, 2, 3, 4], {0: 0, 1: 1, 2: 2, 3: 0}, {0: 4, 3: 2})
        self.assertEqual(moved, [0])
        self.assertEqual(given[3], 2)

    def test_a_guest_who_wants_more_moves_to_where_one_who_wants_less_is(self):
        # Room 2 of kind 1 is closed: 0 has to go to room 3 of kind 2, from where 1 has to go down.
        given, moved, _ = self.told([2, 1, 1], [0, 1, 3], {0: 1, 1: 0}, {0: 2, 1: 3})
        self.assertEqual((given[0], moved), (3, [0, 1]))

    def test_a_chain_down_all_kinds(self):
        # Each has the room that the next better one needs.
        wants = {n: n for n in range(6)}
        given, moved, _ = self.told([1] * 6, list(range(6)), wants, {n: n + 1 for n in range(5)})
        self.assertEqual((given, moved), ({n: n for n in range(6)}, [0, 1, 2, 3, 4]))

    def test_one_long_step_instead_of_a_chain(self):
        # The best room is needed: 4 could make way for 5 and then others for 4; 0 can go at once.
        wants = {0: 0, 1: 1, 2: 2, 3: 3, 5: 4}
        given, moved, _ = self.told([1] * 5, list(range(5)), wants, {0: 4, 1: 1, 2: 2, 3: 3})
        self.assertEqual((given, moved), ({0: 0, 1: 1, 2: 2, 3: 3, 5: 4}, [0]))

    def test_lesser_guests_in_rooms_that_several_better_ones_need(self):
        wants = {0: 0, 1: 0, 2: 0, 3: 2, 4: 1, 5: 2}
        _, moved, _ = self.told([3, 1, 2], list(range(6)), wants, {0: 3, 1: 4, 2: 5})
        self.assertEqual(moved, [0, 1, 2])

    def test_one_of_two_equal_ones_stays(self):
        _, moved, _ = self.told([2, 2], [0, 1, 2, 3], {0: 0, 1: 0, 2: 1}, {0: 2, 1: 3})
        self.assertEqual(len(moved), 1)

    def test_closed_under_guests_of_several_kinds_at_once(self):
        # Kinds 1 and 2 are closed: who was there goes up, and who wants less there goes down.
        counts, rooms = [2, 1, 1, 3], [0, 1, 4, 5, 6]
        wants, ahead = {0: 1, 1: 2, 2: 0, 3: 0, 4: 3}, {0: 2, 1: 3, 2: 4, 3: 5, 4: 6}
        given, moved, _ = self.told(counts, rooms, wants, ahead)
        self.assertEqual(moved, [0, 1, 2, 3])
        self.assertEqual((given[4], sorted([given[0], given[1]]), sorted([given[2], given[3]])), (6, [4, 5], [0, 1]))

    def test_the_lesser_kinds_are_looked_at_with_the_better_ones(self):
        # Kind 1 has one too many by 0 and by 3, kind 2 by 0 alone: to move 3 first would cost two.
        _, moved, _ = self.told([2, 2, 1], list(range(5)), {0: 0, 3: 0, 4: 2, 5: 1}, {0: 4, 3: 3})
        self.assertEqual(moved, [0])
        _, moved, _ = self.told([2, 2, 1], list(range(5)), {0: 0, 3: 0, 4: 2, 5: 1}, {3: 4, 0: 3})
        self.assertEqual(moved, [3])

    def test_two_papers_in_one(self):
        # Kinds 1 and 3 each force a move, by guests who are not in both ways.
        wants, ahead = {0: 0, 1: 2, 2: 1, 3: 3}, {0: 1, 1: 3}
        given, moved, paper = self.told([1] * 4, list(range(4)), wants, ahead)
        self.assertEqual((given, moved, paper), ({0: 0, 1: 2, 2: 1, 3: 3}, [0, 1], [1, 3]))


class ShortTest(NightTest):
    def test_full(self):
        self.refused([1], [0], {0: 0, 1: 0}, {}, 0)
        self.refused([1, 1], [0, 1], {0: 1, 1: 1}, {}, 1)
        self.refused([1, 1], [0, 1], {0: 1, 1: 1}, {0: 1, 1: 0}, 1)
        self.refused([0, 0, 0], [], {4: 2}, {}, 0)

    def test_the_least_of_several_kinds(self):
        self.refused([1, 1, 1], [0, 1, 2], {0: 2, 1: 2, 2: 2}, {0: 2}, 1)
        self.refused([2, 0, 0, 0], [0, 1], {0: 3}, {}, 1)
        self.refused([1] * 6, list(range(6)), {n: 5 for n in range(6)}, {}, 1)
        self.refused([1] * 6, list(range(6)), {n: 5 for n in range(2)}, {}, 5)

    def test_only_open_rooms_count(self):
        self.refused([1, 1], [1], {0: 0, 1: 1}, {0: 0, 1: 1}, 0)
        self.refused([1, 1], [0], {0: 0, 1: 1}, {0: 0, 1: 1}, 0)
        self.refused([2, 1], [0, 1], {0: 0, 1: 1}, {0: 0, 1: 2}, 1)

    def test_it_is_an_inn_error_and_a_value_error(self):
        for caught in [InnError, ValueError]:
            with self.assertRaises(caught):
                tonight([0], [], {0: 0}, {})


class ManyNightsTest(unittest.TestCase):
    def test_small_nights(self):
        """Full just where a kind is short; else all of point 6, and no way at all moves fewer."""
        full, moves = set(), set()
        for night in small_nights(most=4):
            kind = least_short_kind(*night[:3])
            if kind is not None:
                with self.assertRaises(Full, msg=night) as caught:
                    tonight(*night)
                self.assertEqual((caught.exception.night, caught.exception.kind), (None, kind), night)
                full.add(kind)
                continue
            told = tonight(*night)
            check_night(self, night, told)
            self.assertEqual(len(told[1]), fewest_moves(*night), (night, told))
            moves.add(len(told[1]))
        self.assertEqual((full, moves), ({0, 1, 2, 3}, {0, 1, 2, 3}))

    def test_just_where_there_is_a_way_there_is_an_answer(self):
        """Point 5."""
        for night in small_nights(most=3):
            way = next(every_way(*night[:3]), None)
            self.assertEqual(way is None, refuses(night), night)

    def test_great_nights(self):
        """Here the number of the paper, by the words of point 7, shows that fewer can't be (8)."""
        full, papers, moves = 0, set(), set()
        for seed in range(4000):
            night = great_night(seed)
            if least_short_kind(*night[:3]) is not None:
                self.assertTrue(refuses(night), night)
                full += 1
                continue
            told = tonight(*night)
            check_night(self, night, told)
            papers.add(tuple(told[2]))
            moves.add(len(told[1]))
        self.assertGreater(full, 200)
        self.assertLess(full, 3500)
        self.assertGreater(len(papers), 8)
        self.assertGreater(len(moves), 8)

    def test_crowded_nights(self):
        """All rooms taken, by guests in better rooms than they want, and some of them needed."""
        papers = set()
        for seed in range(1500):
            night = crowded_night(seed)
            told = tonight(*night)
            check_night(self, night, told)
            papers.add(tuple(told[2]))
        self.assertGreater(len(papers), 20)
        self.assertTrue(any(len(paper) > 2 for paper in papers))


def refuses(night):
    try:
        tonight(*night)
    except Full:
        return True
    return False


class UnchangedTest(unittest.TestCase):
    def test_what_is_handed_in_stays(self):
        for seed in range(200):
            counts, rooms, wants, ahead = great_night(seed)
            kept = copy.deepcopy((counts, rooms, list(wants.items()), list(ahead.items())))
            refuses((counts, rooms, wants, ahead))
            self.assertEqual((counts, rooms, list(wants.items()), list(ahead.items())), kept)

    def test_what_is_told_is_the_askers_own(self):
        for seed in range(200):
            night = crowded_night(seed)
            given, moved, paper = tonight(*night)
            kept = copy.deepcopy((given, moved, paper))
            handed = copy.deepcopy(night)
            given.clear()
            moved.append(99)
            paper.append(99)
            self.assertEqual(night, handed)
            self.assertEqual(tonight(*night), kept)

    def test_where_all_stay_what_is_told_is_not_ahead_itself(self):
        wants, ahead, rooms = {0: 0, 1: 1}, {0: 0, 1: 1}, [0, 1]
        given, moved, _ = tonight([1, 1], rooms, wants, ahead)
        given[0] = 7
        moved.append(8)
        self.assertEqual((wants, ahead, rooms), ({0: 0, 1: 1}, {0: 0, 1: 1}, [0, 1]))

    def test_what_was_told_does_not_change_later(self):
        for seed in range(100):
            counts, rooms, wants, ahead = crowded_night(seed)
            told = tonight(counts, rooms, wants, ahead)
            kept = copy.deepcopy(told)
            for handed in (rooms, wants, ahead):
                handed.clear()
            tonight(*crowded_night(seed + 1))
            tonight(*crowded_night(seed))
            self.assertEqual(told, kept)

    def test_the_same_of_the_same_whatever_the_order(self):
        for seed in range(200):
            counts, rooms, wants, ahead = crowded_night(seed)
            told = tonight(counts, rooms, wants, ahead)
            backwards = tonight(counts, rooms, dict(reversed(wants.items())), dict(reversed(ahead.items())))
            self.assertEqual(backwards, told)
            self.assertEqual(list(backwards[0]), list(told[0]))

    def test_each_question_is_about_what_is_handed_in_now(self):
        counts, rooms, wants, ahead = [1, 1], [0, 1], {0: 0}, {0: 1}
        self.assertEqual(tonight(counts, rooms, wants, ahead)[:2], ({0: 1}, []))
        rooms.remove(1)
        self.assertEqual(tonight(counts, rooms, wants, ahead)[:2], ({0: 0}, [0]))
        ahead[0] = 0
        self.assertEqual(tonight(counts, rooms, wants, ahead)[:2], ({0: 0}, []))
        wants[0] = 1
        self.assertTrue(refuses((counts, rooms, wants, {})))


class BeyondTest(NightTest):
    def test_more_of_all_than_the_limits(self):
        night = [3] * 8, list(range(24)), {n: n % 8 for n in range(24)}, {n: 16 + n for n in range(8)}
        check_night(self, night, tonight(*night))
        night = [12, 11], list(range(23)), {n: 0 for n in range(23)}, {n: 22 - n for n in range(20)}
        check_night(self, night, tonight(*night))
        self.assertEqual(len(tonight(*night)[1]), 0)

    def test_no_error_but_full_for_kinds_and_rooms_that_there_are_not(self):
        for want in [-2, -1, 2, 3, 9]:
            for rooms in [[], [0], [0, 1], [0, 1, 2]]:
                for ahead in [{}, {0: 1, 1: 7}, {1: 1, 0: 2}]:
                    refuses(([1, 1], rooms, {0: 0, 1: want}, ahead))

    def test_any_room_will_do_for_a_kind_below_all(self):
        self.assertEqual(tonight([1, 1], [0], {0: -1}, {})[:2], ({0: 0}, []))


class WhoIsMovedTest(unittest.TestCase):
    def test_moved_are_just_those_with_another_room(self):
        for seed in range(300):
            night = crowded_night(seed)
            given, moved, _ = tonight(*night)
            self.assertEqual(moved, moved_of(given, night[3]))
            self.assertEqual(moved, sorted(moved))


if __name__ == "__main__":
    unittest.main()
