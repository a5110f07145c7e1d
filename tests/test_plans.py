"""All nights: point 9."""

import copy
import itertools
import unittest

from innkinds.errors import Full, InnError
from innkinds.plans import plan
from innkinds.tonight import tonight

from by_words import Dice, check_plan, fewest_moves, first_short, night_by_words


class PlanTest(unittest.TestCase):
    def told(self, counts, closings, stays):
        """A plan by hand: checked by the words, each night against all ways to give rooms."""
        told = plan(counts, closings, stays)
        check_plan(self, counts, closings, stays, told)
        ahead = {}
        for night, (given, moved, _) in enumerate(told):
            rooms, wants = night_by_words(counts, closings, stays, night)
            self.assertEqual(len(moved), fewest_moves(counts, rooms, wants, ahead), night)
            ahead = given
        return told

    def refused(self, counts, closings, stays, night, kind):
        with self.assertRaises(Full) as caught:
            plan(counts, closings, stays)
        self.assertIs(type(caught.exception), Full)
        self.assertEqual((caught.exception.night, caught.exception.kind), (night, kind))


class HowManyNightsTest(PlanTest):
    def test_none_without_stays(self):
        self.assertEqual(self.told([2, 1], {}, {}), [])
        self.assertEqual(self.told([0, 0], {}, {}), [])
        self.assertEqual(self.told([2, 1], {0: (0, 40, 1), 3: (2, 5, 0)}, {}), [])

    def test_up_to_the_last_night_of_any_stay(self):
        self.assertEqual(len(self.told([2], {}, {0: (0, 1, 0)})), 1)
        self.assertEqual(len(self.told([2], {}, {0: (3, 7, 0), 1: (2, 4, 0)})), 7)
        self.assertEqual(len(self.told([2], {}, {0: (2, 4, 0), 1: (3, 7, 0)})), 7)
        self.assertEqual(len(self.told([2], {}, {5: (12, 13, 0)})), 13)

    def test_closings_do_not_matter_for_it(self):
        self.assertEqual(len(self.told([1, 1], {0: (0, 40, 1)}, {0: (2, 4, 0)})), 4)
        self.assertEqual(len(self.told([1, 1], {0: (0, 1, 1)}, {0: (2, 4, 0)})), 4)

    def test_last_night_is_39(self):
        self.assertEqual(len(self.told([2], {}, {0: (39, 40, 0)})), 40)
        told = self.told([2], {}, {0: (0, 40, 0)})
        self.assertEqual(len(told), 40)
        self.assertEqual([moved for _, moved, _ in told], [[]] * 40)
        self.assertEqual(len({given[0] for given, _, _ in told}), 1)

    def test_nights_on_which_nothing_is_wanted(self):
        told = self.told([2], {0: (1, 3, 0)}, {0: (4, 5, 0), 1: (0, 1, 0)})
        self.assertEqual([given.keys() for given, _, _ in told], [{1}, set(), set(), set(), {0}])
        self.assertEqual([moved for _, moved, _ in told], [[]] * 5)


class NightByNightTest(PlanTest):
    def test_the_first_night_is_by_none(self):
        told = self.told([1, 1], {0: (0, 3, 0)}, {0: (0, 5, 0)})
        self.assertEqual([moved for _, moved, _ in told], [[]] * 5)
        self.assertEqual([given for given, _, _ in told], [{0: 1}] * 5)

    def test_driven_out_by_a_closing(self):
        told = self.told([1, 1], {0: (2, 4, 0)}, {0: (0, 6, 0)})
        self.assertEqual([moved for _, moved, _ in told[:4]], [[]] * 2 + [[0]] + [[]])
        self.assertEqual([given[0] for given, _, _ in told], [0, 0, 1, 1, 1, 1])
        # When it is opened again he may stay where he is.
        self.assertEqual([moved for _, moved, _ in told[4:]], [[], []])

    def test_on_that_night_alone(self):
        for first in range(1, 8):
            for last in range(first + 1, 9):
                told = self.told([2, 2], {0: (first, last, 0)}, {0: (0, 9, 0), 1: (0, 9, 0)})
                # Both have rooms of kind 0 at first, or the plan gave them better ones at once.
                there = sorted(n for n, room in told[first - 1][0].items() if room < 2)
                self.assertEqual([moved for _, moved, _ in told], [[]] * first + [there] + [[]] * (8 - first))

    def test_who_comes_back_down_makes_way(self):
        # 0 is driven up to the best room by a closing; when 1 comes it has to go down again.
        told = self.told([1, 1], {0: (1, 2, 0)}, {0: (0, 5, 0), 1: (3, 5, 1)})
        self.assertEqual([given[0] for given, _, _ in told], [0, 1, 1, 0, 0])
        self.assertEqual([moved for _, moved, _ in told], [[], [0], [], [0], []])

    def test_the_night_ahead_counts_and_none_before(self):
        # After the way up nothing draws guest 0 back to the room of night 0.
        told = self.told([2, 1, 1], {0: (1, 2, 0)}, {0: (0, 4, 0)})
        self.assertEqual([given[0] for given, _, _ in told], [0, 2, 2, 2])
        self.assertEqual([moved for _, moved, _ in told], [[], [0], [], []])

    def test_who_leaves_and_who_comes(self):
        told = self.told([1], {}, {0: (0, 2, 0), 1: (2, 4, 0), 2: (4, 6, 0)})
        self.assertEqual([given for given, _, _ in told], [{0: 0}, {0: 0}, {1: 0}, {1: 0}, {2: 0}, {2: 0}])
        self.assertEqual([moved for _, moved, _ in told], [[]] * 6)

    def test_closed_under_guests_of_several_kinds_at_once(self):
        counts = [2, 2, 4]
        closings = {0: (3, 5, 0), 1: (3, 5, 1)}
        stays = {0: (0, 8, 0), 1: (0, 8, 0), 2: (1, 8, 1), 3: (2, 8, 1)}
        told = self.told(counts, closings, stays)
        self.assertEqual(told[3][1], [n for n in range(4) if told[2][0][n] < 4])
        self.assertEqual([moved for _, moved, _ in told[4:]], [[]] * 4)

    def test_a_chain_by_a_better_guest(self):
        # Each one comes when only a room better than his is free; then the best one comes.
        counts = [1, 1, 1]
        closings = {0: (0, 1, 0), 1: (0, 1, 1)}
        told = self.told(counts, closings, {0: (0, 5, 0), 1: (2, 5, 2), 2: (3, 5, 1)})
        self.assertEqual([given[0] for given, _, _ in told], [2, 2, 0, 0, 0])
        self.assertEqual([moved for _, moved, _ in told], [[], [], [0], [], []])

    def test_each_night_is_what_tonight_tells_by_the_night_ahead(self):
        counts, closings, stays = [2, 1, 2], {0: (2, 5, 1), 4: (5, 9, 0)}, {0: (0, 9, 0), 7: (1, 8, 1), 3: (4, 9, 0)}
        told = self.told(counts, closings, stays)
        ahead = {}
        for night in range(9):
            rooms, wants = night_by_words(counts, closings, stays, night)
            self.assertEqual(told[night], tonight(counts, rooms, wants, ahead))
            ahead = told[night][0]


class FullTest(PlanTest):
    def test_the_first_night_and_its_least_kind(self):
        self.refused([1], {}, {0: (0, 3, 0), 1: (2, 5, 0)}, 2, 0)
        self.refused([0], {}, {0: (39, 40, 0)}, 39, 0)
        self.refused([0], {}, {0: (0, 1, 0)}, 0, 0)
        self.refused([1, 1], {0: (4, 9, 1)}, {0: (0, 40, 1)}, 4, 1)

    def test_several_nights_and_kinds(self):
        stays = {0: (2, 12, 2), 1: (6, 12, 2), 2: (8, 12, 0), 3: (8, 12, 0), 4: (8, 12, 0)}
        self.refused([1, 1, 1], {}, stays, 6, 2)
        self.refused([1, 1, 1], {9: (7, 9, 1)}, stays, 6, 2)
        self.refused([1, 1, 1], {9: (4, 9, 1), 2: (5, 7, 2)}, stays, 5, 1)
        self.refused([1, 1, 1], {9: (4, 9, 1), 2: (4, 7, 2), 5: (5, 6, 0)}, stays, 4, 1)
        self.refused([1, 1, 1], {9: (4, 9, 1), 2: (4, 7, 2), 5: (4, 6, 0)}, stays, 4, 0)

    def test_a_later_night_that_is_shorter_does_not_matter(self):
        self.refused([2, 1], {}, {0: (5, 6, 1), 1: (5, 6, 1), 2: (9, 12, 0), 3: (9, 12, 0), 4: (9, 12, 0), 5: (9, 12, 0)},
                     5, 1)

    def test_it_is_an_inn_error_and_a_value_error(self):
        for caught in [InnError, ValueError]:
            with self.assertRaises(caught):
                plan([0], {}, {0: (0, 1, 0)})

    def test_where_none_is_short_it_is_no_refusal(self):
        self.told([0, 0, 1], {0: (5, 6, 2), 1: (0, 40, 0)}, {0: (0, 5, 0), 1: (6, 40, 2)})


def an_inn(seed, most=20):
    """House, closings and stays, short ones among them."""
    dice = Dice(seed)
    counts = [dice.below(4 + seed % 4) for _ in range(1 + dice.below(6))]

    def spans(many, longest):
        told = {}
        for _ in range(many):
            first = dice.below(40)
            told[dice.below(60)] = (first, min(40, first + 1 + dice.below(longest)), dice.below(len(counts)))
        return told

    return counts, spans(dice.below(8), 6), spans(dice.below(most + 1), 20)


def a_crowded_inn(seed):
    """House, closings and stays: of 20 stays and of 18 closings each that leaves no kind short."""
    dice = Dice(seed)
    counts = [dice.below(4) for _ in range(3 + dice.below(4))]
    closings, stays = {}, {}
    for number in range(38):
        first = dice.below(30)
        span = first, first + 1 + dice.below(3 if number % 2 else 10), dice.below(len(counts))
        if number % 2 and number < 36:
            if first_short(counts, {**closings, number: span}, stays) is None:
                closings[number] = span
        elif first_short(counts, closings, {**stays, number: span}) is None:
            stays[number] = span
    return counts, closings, stays


class ManyPlansTest(unittest.TestCase):
    def test_many_inns(self):
        full = 0
        for seed in range(600):
            counts, closings, stays = an_inn(seed)
            short = first_short(counts, closings, stays)
            if short is not None:
                with self.assertRaises(Full) as caught:
                    plan(counts, closings, stays)
                self.assertEqual((caught.exception.night, caught.exception.kind), short, seed)
                full += 1
                continue
            check_plan(self, counts, closings, stays, plan(counts, closings, stays))
        self.assertGreater(full, 100)
        self.assertLess(full, 500)

    def test_crowded_inns(self):
        moves, papers = set(), set()
        for seed in range(120):
            counts, closings, stays = a_crowded_inn(seed)
            told = plan(counts, closings, stays)
            check_plan(self, counts, closings, stays, told)
            moves.update(len(moved) for _, moved, _ in told)
            papers.update(tuple(paper) for _, _, paper in told)
        self.assertGreater(len(moves), 3)
        self.assertGreater(len(papers), 5)

    def test_small_inns(self):
        """All closings and stays of three nights in a small house, each night against all ways."""
        spans = [(first, last, kind) for first in range(3) for last in range(first + 1, 4) for kind in range(2)]
        for counts in [[1, 1], [2, 1], [0, 2]]:
            for stays in itertools.combinations_with_replacement(spans, 2):
                stays = {4: stays[0], 1: stays[1], 9: (1, 3, 0)}
                for closing in spans:
                    self.check_small(counts, {0: closing}, stays)

    def check_small(self, counts, closings, stays):
        short = first_short(counts, closings, stays)
        if short is not None:
            with self.assertRaises(Full) as caught:
                plan(counts, closings, stays)
            self.assertEqual((caught.exception.night, caught.exception.kind), short)
            return
        told = plan(counts, closings, stays)
        check_plan(self, counts, closings, stays, told)
        ahead = {}
        for night, (given, moved, _) in enumerate(told):
            rooms, wants = night_by_words(counts, closings, stays, night)
            self.assertEqual(len(moved), fewest_moves(counts, rooms, wants, ahead), (counts, closings, stays))
            ahead = given


class UnchangedTest(unittest.TestCase):
    def test_what_is_handed_in_stays(self):
        for seed in range(60):
            counts, closings, stays = an_inn(seed, 9)
            kept = copy.deepcopy((counts, list(closings.items()), list(stays.items())))
            try:
                plan(counts, closings, stays)
            except Full:
                pass
            self.assertEqual((counts, list(closings.items()), list(stays.items())), kept)

    def test_what_is_told_is_the_askers_own(self):
        counts, closings, stays = [2, 1, 2], {0: (2, 5, 1), 4: (5, 9, 0)}, {0: (0, 9, 0), 7: (1, 8, 1), 3: (4, 9, 0)}
        told = plan(counts, closings, stays)
        kept = copy.deepcopy(told)
        for given, moved, paper in told:
            given.clear()
            moved.append(8)
            paper.append(9)
        told.clear()
        self.assertEqual(plan(counts, closings, stays), kept)

    def test_nights_share_nothing(self):
        told = plan([2], {}, {0: (0, 5, 0)})
        for part in itertools.chain.from_iterable(zip(*told)):
            self.assertEqual([part is other for night in told for other in night].count(True), 1)
        told[2][0][0] = 77
        self.assertEqual([night[0][0] for night in told], [0, 0, 77, 0, 0])

    def test_what_was_told_does_not_change_later(self):
        counts, closings, stays = [1, 1], {0: (2, 4, 0)}, {0: (0, 6, 0)}
        told = plan(counts, closings, stays)
        kept = copy.deepcopy(told)
        stays[1] = (3, 5, 0)
        closings.clear()
        self.assertEqual(len(plan(counts, closings, stays)), 6)
        counts.clear()
        self.assertEqual(told, kept)

    def test_the_same_of_the_same_whatever_the_order(self):
        for seed in range(60):
            counts, closings, stays = an_inn(seed, 8)
            if first_short(counts, closings, stays) is None:
                told = plan(counts, closings, stays)
                self.assertEqual(plan(counts, closings, stays), told)
                backwards = plan(counts, dict(reversed(closings.items())), dict(reversed(stays.items())))
                self.assertEqual(backwards, told)


class BeyondTest(unittest.TestCase):
    def test_more_stays_and_closings_than_the_limits(self):
        counts = [4, 4, 4, 4, 4, 4, 4]
        stays = {n: (n, n + 10, n % 7) for n in range(24)}
        closings = {n: (n, n + 1, 0) for n in range(24)}
        check_plan(self, counts, closings, stays, plan(counts, closings, stays))

    def test_nights_beyond_are_no_error(self):
        told = plan([1], {0: (35, 48, 0)}, {0: (-4, 3, 0)})
        self.assertEqual([given for given, _, _ in told], [{0: 0}] * 3)
        told = plan([1], {0: (-4, 3, 0)}, {0: (38, 44, 0)})
        self.assertEqual([given for given, _, _ in told[:40]], [{}] * 38 + [{0: 0}] * 2)
        self.assertEqual(plan([1], {}, {0: (-4, 0, 0)}), [])
        self.assertEqual(plan([1], {}, {0: (-4, -2, 0)}), [])

    def test_kinds_that_there_are_not_are_no_error(self):
        self.assertEqual(len(plan([1, 1], {0: (0, 3, 2), 1: (0, 3, -1)}, {0: (0, 2, -1), 1: (0, 3, 2)})), 3)


if __name__ == "__main__":
    unittest.main()
