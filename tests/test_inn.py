"""The inn and what it refuses: points 10 to 14."""

import unittest

from innkinds.errors import BadHouse, BadSpan, Full, InnError, NoClosing, NoPromise, NoWayBack
from innkinds.inn import Inn
from innkinds.plans import plan

from by_words import Dice, check_plan, first_short

FAR = 10 ** 30
ERRORS = [BadHouse, BadSpan, Full, NoPromise, NoClosing, NoWayBack]

NO_HOUSES = [[], [1] * 7, [0] * 7, [-1], [10], [2, -1, 2], [2, 10, 2], [FAR], [-FAR], [1, FAR], [3] * 160, [0] * 160,
             list(range(10)), [10] * 160, [9, 9, 9, 9, 9, 10], [-1, 9, 9, 9, 9, 9]]
HOUSES = [[0], [9], [0] * 6, [9] * 6, [2, 0, 3], [0, 1]]

NO_SPANS = [(3, 3, 0), (4, 3, 0), (-1, 3, 0), (-1, 0, 0), (0, 0, 0), (0, 41, 0), (39, 41, 0), (40, 41, 0), (40, 40, 0),
            (2, 5, -1), (2, 5, 2), (2, 5, 3), (-FAR, 5, 0), (2, FAR, 0), (2, 5, FAR), (2, 5, -FAR), (FAR, FAR + 1, 0)]


class InnTest(unittest.TestCase):
    def refused(self, error, ask, *told):
        """The refusal: just that one, and caught as what the interface says."""
        with self.assertRaises(error) as caught:
            ask(*told)
        self.assertIs(type(caught.exception), error)
        self.assertIsInstance(caught.exception, InnError)
        self.assertIsInstance(caught.exception, ValueError)
        for other in ERRORS:
            if other is not error:
                self.assertNotIsInstance(caught.exception, other)
        return caught.exception

    def full(self, night, kind, ask, *told):
        caught = self.refused(Full, ask, *told)
        self.assertEqual((caught.night, caught.kind), (night, kind))

    def holds(self, inn, promises, closings):
        """What the inn tells of its promises and closings, their order too."""
        self.assertIs(type(inn.promises()), dict)
        self.assertIs(type(inn.closings()), dict)
        self.assertEqual(list(inn.promises().items()), list(promises.items()))
        self.assertEqual(list(inn.closings().items()), list(closings.items()))


class HouseTest(InnTest):
    def test_what_is_no_house(self):
        for counts in NO_HOUSES:
            with self.subTest(counts=counts):
                self.refused(BadHouse, Inn, counts)

    def test_houses(self):
        for counts in HOUSES:
            with self.subTest(counts=counts):
                self.holds(Inn(counts), {}, {})

    def test_a_new_inn(self):
        inn = Inn([2, 1])
        self.holds(inn, {}, {})
        self.assertEqual(inn.nights(), [])
        self.refused(NoPromise, inn.rooms_for, 0)
        self.refused(NoPromise, inn.drop, 0)
        self.refused(NoClosing, inn.reopen, 0)
        self.refused(NoWayBack, inn.undo)

    def test_counts_stay_as_they_were(self):
        for counts in NO_HOUSES + HOUSES:
            kept = list(counts)
            try:
                Inn(counts)
            except BadHouse:
                pass
            self.assertEqual(counts, kept)


class PromiseAndCloseTest(InnTest):
    def test_numbered_apart_from_0_on(self):
        inn = Inn([3, 3])
        self.assertEqual([inn.promise(0, 3, 0), inn.promise(0, 4, 1)], [0, 1])
        self.assertEqual([inn.close(7, 9, 0), inn.close(8, 9, 1), inn.close(8, 40, 1)], [0, 1, 2])
        self.assertEqual(inn.promise(2, 3, 1), 2)
        self.assertEqual(inn.close(20, 21, 0), 3)
        self.holds(inn, {0: (0, 3, 0), 1: (0, 4, 1), 2: (2, 3, 1)},
                   {0: (7, 9, 0), 1: (8, 9, 1), 2: (8, 40, 1), 3: (20, 21, 0)})

    def test_they_tell_tuples(self):
        inn = Inn([3, 3])
        inn.promise(0, 3, 0)
        inn.close(7, 9, 1)
        self.assertIs(type(inn.promises()[0]), tuple)
        self.assertIs(type(inn.closings()[0]), tuple)

    def test_numbers_are_not_given_again_behind_drop_and_reopen(self):
        inn = Inn([3, 3])
        inn.promise(0, 3, 0)
        inn.promise(0, 3, 1)
        inn.drop(1)
        self.assertEqual(inn.promise(1, 2, 0), 2)
        inn.drop(2)
        inn.drop(0)
        self.assertEqual(inn.promise(1, 2, 1), 3)
        inn.close(4, 6, 0)
        inn.reopen(0)
        self.assertEqual(inn.close(5, 6, 1), 1)
        self.holds(inn, {3: (1, 2, 1)}, {1: (5, 6, 1)})

    def test_the_same_span_again_is_another_one(self):
        inn = Inn([3])
        self.assertEqual([inn.promise(0, 3, 0) for _ in range(3)], [0, 1, 2])
        self.assertEqual([inn.close(5, 6, 0) for _ in range(3)], [0, 1, 2])
        inn.drop(1)
        inn.reopen(0)
        self.holds(inn, {0: (0, 3, 0), 2: (0, 3, 0)}, {1: (5, 6, 0), 2: (5, 6, 0)})

    def test_spans_at_the_edges(self):
        inn = Inn([2, 2])
        for span in [(0, 1, 0), (39, 40, 1), (0, 40, 0)]:
            inn.promise(*span)
        for span in [(0, 1, 1), (38, 39, 1), (37, 38, 0)]:
            inn.close(*span)
        self.holds(inn, {0: (0, 1, 0), 1: (39, 40, 1), 2: (0, 40, 0)}, {0: (0, 1, 1), 1: (38, 39, 1), 2: (37, 38, 0)})

    def test_what_is_no_span(self):
        inn = Inn([2, 2])
        inn.promise(0, 3, 1)
        inn.close(5, 9, 0)
        for span in NO_SPANS:
            with self.subTest(span=span):
                self.refused(BadSpan, inn.promise, *span)
                self.refused(BadSpan, inn.close, *span)
        self.holds(inn, {0: (0, 3, 1)}, {0: (5, 9, 0)})
        self.assertEqual((inn.promise(0, 1, 0), inn.close(0, 1, 0)), (1, 1))

    def test_what_is_no_span_is_refused_ahead_of_full(self):
        inn = Inn([0, 0])
        for span in NO_SPANS:
            self.refused(BadSpan, inn.promise, *span)
        inn = Inn([1, 1])
        inn.promise(0, 40, 0)
        inn.promise(0, 40, 1)
        for span in NO_SPANS:
            self.refused(BadSpan, inn.promise, *span)
            self.refused(BadSpan, inn.close, *span)

    def test_the_kinds_of_one_house_are_no_kinds_of_another_one(self):
        for many in range(1, 7):
            inn = Inn([1] * many)
            self.assertEqual(inn.promise(2, 5, many - 1), 0)
            self.refused(BadSpan, inn.promise, 12, 15, many)
            self.refused(BadSpan, inn.close, 12, 15, many)

    def test_full_by_a_promise(self):
        inn = Inn([1, 1])
        inn.promise(3, 9, 1)
        self.full(3, 1, inn.promise, 0, 40, 1)
        self.full(5, 1, inn.promise, 5, 6, 1)
        inn.promise(5, 7, 0)
        self.full(5, 0, inn.promise, 2, 6, 0)
        self.full(3, 1, inn.promise, 2, 6, 1)
        self.full(5, 0, inn.promise, 5, 6, 1)
        self.holds(inn, {0: (3, 9, 1), 1: (5, 7, 0)}, {})
        self.assertEqual(inn.promise(9, 10, 1), 2)

    def test_full_by_a_promise_where_it_is_closed(self):
        inn = Inn([1, 1])
        inn.close(10, 12, 1)
        self.full(10, 1, inn.promise, 0, 40, 1)
        self.full(11, 1, inn.promise, 11, 12, 1)
        self.assertEqual(inn.promise(0, 40, 0), 0)
        self.full(10, 0, inn.promise, 0, 40, 1)
        self.full(11, 0, inn.promise, 11, 12, 0)
        self.assertEqual(inn.promise(12, 40, 1), 1)

    def test_full_by_a_closing(self):
        inn = Inn([1, 1, 1])
        inn.promise(0, 40, 1)
        inn.promise(20, 22, 1)
        self.full(20, 1, inn.close, 5, 30, 1)
        self.full(20, 1, inn.close, 5, 30, 2)
        self.full(21, 1, inn.close, 21, 22, 2)
        self.assertEqual(inn.close(0, 40, 0), 0)
        # Now kind 0 is short, too: it is the lesser one.
        self.full(20, 0, inn.close, 5, 30, 2)
        self.assertEqual(inn.close(5, 20, 2), 1)
        self.full(5, 0, inn.close, 0, 40, 1)
        self.holds(inn, {0: (0, 40, 1), 1: (20, 22, 1)}, {0: (0, 40, 0), 1: (5, 20, 2)})

    def test_full_by_the_best_kind_alone(self):
        inn = Inn([5, 5, 1])
        inn.promise(4, 6, 2)
        self.full(5, 2, inn.promise, 5, 8, 2)
        self.full(4, 2, inn.close, 0, 9, 2)

    def test_a_house_without_a_room(self):
        inn = Inn([0, 0])
        self.full(7, 0, inn.promise, 7, 9, 0)
        self.full(7, 0, inn.promise, 7, 9, 1)
        self.assertEqual(inn.close(0, 40, 1), 0)

    def test_what_is_refused_takes_no_number(self):
        inn = Inn([1])
        self.refused(BadSpan, inn.promise, 3, 3, 0)
        self.assertEqual(inn.promise(3, 5, 0), 0)
        self.full(4, 0, inn.promise, 4, 6, 0)
        self.full(3, 0, inn.close, 0, 6, 0)
        self.refused(BadSpan, inn.close, 0, 6, 1)
        self.assertEqual((inn.promise(5, 6, 0), inn.close(6, 7, 0)), (1, 0))

    def test_a_kind_closed_twice_is_open_when_both_are_over(self):
        inn = Inn([1, 2])
        inn.close(0, 6, 1)
        inn.close(4, 9, 1)
        self.full(0, 1, inn.promise, 0, 4, 1)
        inn.reopen(0)
        self.assertEqual(inn.promise(0, 4, 1), 0)
        self.full(4, 1, inn.promise, 0, 5, 1)

    def test_eighteen_of_both(self):
        inn = Inn([9, 9])
        self.assertEqual([inn.promise(n, n + 20, n % 2) for n in range(18)], list(range(18)))
        self.assertEqual([inn.close(2 * n, 2 * n + 1, 0) for n in range(4)], list(range(4)))
        self.assertEqual([inn.close(39, 40, n % 2) for n in range(14)], list(range(4, 18)))
        check_plan(self, [9, 9], inn.closings(), inn.promises(), inn.nights())


class DropAndReopenTest(InnTest):
    def test_drop(self):
        inn = Inn([2])
        inn.promise(0, 3, 0)
        inn.promise(1, 5, 0)
        self.assertIsNone(inn.drop(0))
        self.holds(inn, {1: (1, 5, 0)}, {})
        self.refused(NoPromise, inn.drop, 0)
        inn.drop(1)
        self.holds(inn, {}, {})
        self.assertEqual(inn.nights(), [])

    def test_no_promise(self):
        inn = Inn([2])
        inn.promise(0, 3, 0)
        inn.close(9, 12, 0)
        inn.close(9, 12, 0)
        for number in [1, -1, 2, 40, FAR, -FAR]:
            self.refused(NoPromise, inn.drop, number)
            self.refused(NoPromise, inn.rooms_for, number)
        self.holds(inn, {0: (0, 3, 0)}, {0: (9, 12, 0), 1: (9, 12, 0)})

    def test_reopen(self):
        inn = Inn([2])
        inn.close(0, 3, 0)
        inn.close(1, 5, 0)
        self.assertIsNone(inn.reopen(0))
        self.holds(inn, {}, {1: (1, 5, 0)})
        self.refused(NoClosing, inn.reopen, 0)
        inn.reopen(1)
        self.holds(inn, {}, {})

    def test_no_closing(self):
        inn = Inn([2])
        inn.close(9, 12, 0)
        inn.promise(0, 3, 0)
        inn.promise(0, 3, 0)
        for number in [1, -1, 2, 40, FAR, -FAR]:
            self.refused(NoClosing, inn.reopen, number)
        self.holds(inn, {0: (0, 3, 0), 1: (0, 3, 0)}, {0: (9, 12, 0)})

    def test_they_make_room(self):
        inn = Inn([1])
        inn.promise(0, 5, 0)
        self.full(0, 0, inn.promise, 0, 5, 0)
        inn.drop(0)
        self.assertEqual(inn.promise(0, 5, 0), 1)
        inn.close(5, 9, 0)
        self.full(5, 0, inn.promise, 5, 6, 0)
        inn.reopen(0)
        self.assertEqual(inn.promise(5, 6, 0), 2)


class UndoTest(InnTest):
    def test_of_a_promise(self):
        inn = Inn([2])
        inn.promise(0, 3, 0)
        inn.promise(1, 4, 0)
        self.assertIsNone(inn.undo())
        self.holds(inn, {0: (0, 3, 0)}, {})
        self.refused(NoPromise, inn.rooms_for, 1)
        self.assertEqual(inn.promise(2, 6, 0), 1)
        self.holds(inn, {0: (0, 3, 0), 1: (2, 6, 0)}, {})

    def test_of_a_closing(self):
        inn = Inn([2])
        inn.close(0, 3, 0)
        inn.close(1, 4, 0)
        inn.undo()
        self.holds(inn, {}, {0: (0, 3, 0)})
        self.refused(NoClosing, inn.reopen, 1)
        self.assertEqual(inn.close(2, 6, 0), 1)
        self.holds(inn, {}, {0: (0, 3, 0), 1: (2, 6, 0)})

    def test_of_a_drop(self):
        inn = Inn([3])
        for last in [3, 4, 5]:
            inn.promise(0, last, 0)
        inn.drop(1)
        inn.undo()
        self.holds(inn, {0: (0, 3, 0), 1: (0, 4, 0), 2: (0, 5, 0)}, {})
        self.assertEqual(inn.promise(9, 10, 0), 3)
        inn.undo()
        inn.drop(2)
        inn.undo()
        self.assertEqual(inn.promise(9, 10, 0), 3)

    def test_of_a_reopening(self):
        inn = Inn([3])
        for last in [3, 4, 5]:
            inn.close(0, last, 0)
        inn.reopen(0)
        inn.undo()
        self.holds(inn, {}, {0: (0, 3, 0), 1: (0, 4, 0), 2: (0, 5, 0)})
        self.full(4, 0, inn.promise, 4, 7, 0)
        self.assertEqual(inn.close(9, 10, 0), 3)

    def test_the_next_number_behind_drop_and_undo(self):
        inn = Inn([3])
        inn.promise(0, 3, 0)
        inn.drop(0)
        inn.promise(0, 4, 0)
        inn.undo()
        self.assertEqual(inn.promise(0, 5, 0), 1)
        inn.undo()
        inn.undo()
        self.assertEqual(inn.promise(0, 6, 0), 1)
        for _ in range(2):
            inn.undo()
        self.assertEqual(inn.promise(0, 7, 0), 0)

    def test_promises_and_closings_are_counted_back_apart(self):
        inn = Inn([3, 3])
        inn.promise(0, 3, 0)
        inn.close(5, 6, 0)
        inn.promise(0, 3, 1)
        inn.undo()
        self.assertEqual((inn.close(7, 8, 0), inn.promise(0, 4, 1)), (1, 1))
        inn.undo()
        inn.undo()
        self.assertEqual((inn.promise(0, 4, 1), inn.close(7, 8, 0)), (1, 1))

    def test_several_deeds_and_then_no_way_back(self):
        inn = Inn([2, 2])
        states = []
        for deed, told in [(inn.promise, (0, 9, 0)), (inn.close, (3, 5, 0)), (inn.promise, (2, 6, 1)),
                           (inn.reopen, (0,)), (inn.drop, (0,)), (inn.close, (7, 8, 1)), (inn.drop, (1,))]:
            states.append((inn.promises(), inn.closings(), inn.nights()))
            deed(*told)
        for promises, closings, nights in reversed(states):
            inn.undo()
            self.holds(inn, promises, closings)
            self.assertEqual(inn.nights(), nights)
        for _ in range(3):
            self.refused(NoWayBack, inn.undo)
        self.holds(inn, {}, {})
        self.assertEqual((inn.promise(0, 1, 0), inn.close(2, 3, 0)), (0, 0))

    def test_what_is_refused_is_no_deed(self):
        inn = Inn([1, 1])
        inn.promise(0, 9, 1)
        inn.close(12, 14, 0)
        self.full(3, 1, inn.promise, 3, 5, 1)
        self.full(0, 1, inn.close, 0, 2, 1)
        self.refused(BadSpan, inn.promise, 5, 5, 0)
        self.refused(BadSpan, inn.close, 5, 6, 2)
        self.refused(NoPromise, inn.drop, 1)
        self.refused(NoClosing, inn.reopen, 1)
        self.refused(NoPromise, inn.rooms_for, 1)
        self.holds(inn, {0: (0, 9, 1)}, {0: (12, 14, 0)})
        inn.undo()
        self.holds(inn, {0: (0, 9, 1)}, {})
        self.full(3, 1, inn.promise, 3, 5, 1)
        inn.undo()
        self.holds(inn, {}, {})
        self.refused(NoWayBack, inn.undo)
        self.refused(BadSpan, inn.promise, 5, 5, 0)
        self.refused(NoWayBack, inn.undo)

    def test_undo_itself_is_not_taken_back(self):
        inn = Inn([2])
        inn.promise(0, 3, 0)
        inn.promise(0, 4, 0)
        inn.undo()
        inn.undo()
        self.holds(inn, {}, {})
        self.refused(NoWayBack, inn.undo)

    def test_what_is_asked_is_no_deed(self):
        inn = Inn([2])
        inn.promise(0, 3, 0)
        inn.nights()
        inn.rooms_for(0)
        inn.promises()
        inn.closings()
        inn.undo()
        self.holds(inn, {}, {})

    def test_new_deeds_behind_an_undo(self):
        inn = Inn([2])
        inn.promise(0, 3, 0)
        inn.promise(0, 4, 0)
        inn.undo()
        inn.close(5, 6, 0)
        inn.undo()
        self.holds(inn, {0: (0, 3, 0)}, {})
        inn.undo()
        self.holds(inn, {}, {})
        self.refused(NoWayBack, inn.undo)


class NightsTest(InnTest):
    def test_the_plan_of_its_promises_and_closings(self):
        inn = Inn([2, 2])
        inn.promise(0, 9, 0)
        inn.promise(2, 12, 1)
        inn.close(4, 6, 0)
        inn.promise(6, 8, 0)
        inn.drop(0)
        told = inn.nights()
        self.assertEqual(told, plan([2, 2], {0: (4, 6, 0)}, {1: (2, 12, 1), 2: (6, 8, 0)}))
        check_plan(self, [2, 2], inn.closings(), inn.promises(), told)
        self.assertEqual(len(told), 12)

    def test_none_without_promises(self):
        inn = Inn([2, 1])
        inn.close(4, 6, 0)
        self.assertEqual(inn.nights(), [])

    def test_rooms_for(self):
        inn = Inn([1, 1])
        inn.promise(0, 6, 0)
        inn.close(2, 4, 0)
        inn.promise(5, 8, 1)
        self.assertEqual(inn.rooms_for(0), [0, 0, 1, 1, 1, 0])
        self.assertEqual(inn.rooms_for(1), [1, 1, 1])

    def test_rooms_for_from_its_first_night_on(self):
        inn = Inn([2, 2])
        spans = [(0, 1, 0), (39, 40, 1), (7, 20, 0), (19, 40, 0), (3, 7, 1)]
        for span in spans:
            inn.promise(*span)
        inn.close(10, 12, 0)
        nights = inn.nights()
        for number, (first, last, _) in enumerate(spans):
            rooms = inn.rooms_for(number)
            self.assertIs(type(rooms), list)
            self.assertEqual(rooms, [nights[night][0][number] for night in range(first, last)])

    def test_rooms_for_one_that_was_dropped(self):
        inn = Inn([2])
        inn.promise(0, 3, 0)
        inn.promise(0, 3, 0)
        inn.drop(0)
        self.refused(NoPromise, inn.rooms_for, 0)
        self.assertEqual(inn.rooms_for(1), [0, 0, 0])
        inn.undo()
        self.assertEqual(len(inn.rooms_for(0)), 3)


class OwnTest(InnTest):
    """Point 1 for the inn."""

    def an_inn(self):
        inn = Inn([2, 1, 2])
        for span in [(0, 9, 0), (1, 8, 1), (4, 9, 0)]:
            inn.promise(*span)
        inn.close(2, 5, 1)
        inn.close(5, 7, 0)
        return inn

    def all_of(self, inn):
        return inn.promises(), inn.closings(), inn.nights(), [inn.rooms_for(n) for n in inn.promises()]

    def test_the_same_asked_again_is_the_same(self):
        inn = self.an_inn()
        self.assertEqual(self.all_of(inn), self.all_of(inn))
        self.assertEqual(self.all_of(inn), self.all_of(self.an_inn()))

    def test_what_was_told_may_be_changed(self):
        inn = self.an_inn()
        kept = self.all_of(self.an_inn())
        promises, closings, nights, rooms = self.all_of(inn)
        promises[0] = (0, 1, 2)
        promises[9] = (0, 40, 0)
        closings.clear()
        for given, moved, paper in nights:
            given.clear()
            moved.append(1)
            paper.append(2)
        nights.pop()
        for told in rooms:
            told.reverse()
            told.append(77)
        self.assertEqual(self.all_of(inn), kept)
        self.assertEqual(inn.promise(0, 1, 0), 3)
        inn.undo()
        self.assertEqual(self.all_of(inn), kept)

    def test_what_was_told_may_be_changed_ahead_of_undo(self):
        inn = self.an_inn()
        kept = self.all_of(inn)
        inn.drop(1)
        inn.promises().clear()
        inn.closings().clear()
        inn.nights().clear()
        inn.undo()
        self.assertEqual(self.all_of(inn), kept)

    def test_later_deeds_do_not_change_what_was_told(self):
        inn = self.an_inn()
        told, kept = self.all_of(inn), self.all_of(self.an_inn())
        inn.promise(0, 1, 2)
        inn.close(20, 30, 0)
        inn.drop(0)
        inn.reopen(1)
        self.all_of(inn)
        inn.undo()
        inn.undo()
        self.assertEqual(told, kept)

    def test_a_list_that_is_changed_changes_no_inn(self):
        counts = [1, 1]
        inn = Inn(counts)
        inn.promise(0, 3, 1)
        counts[1] = 5
        self.full(1, 1, inn.promise, 1, 2, 1)
        counts.clear()
        self.assertEqual(inn.rooms_for(0), [1, 1, 1])
        self.assertEqual(inn.promise(0, 3, 0), 1)

    def test_two_inns_side_by_side(self):
        counts = [1, 1]
        one, other = Inn(counts), Inn(counts)
        self.assertEqual((one.promise(0, 3, 1), other.promise(2, 5, 1)), (0, 0))
        self.assertEqual((one.close(5, 6, 1), other.close(7, 8, 1)), (0, 0))
        self.holds(one, {0: (0, 3, 1)}, {0: (5, 6, 1)})
        self.holds(other, {0: (2, 5, 1)}, {0: (7, 8, 1)})
        one.undo()
        one.undo()
        self.refused(NoWayBack, one.undo)
        self.holds(other, {0: (2, 5, 1)}, {0: (7, 8, 1)})
        self.assertEqual((len(one.nights()), len(other.nights())), (0, 5))


class Book:
    """An inn of plain words: it keeps a copy of all for each deed."""

    def __init__(self, counts):
        self.counts = counts
        self.now = [{}, {}, 0, 0]
        self.past = []

    def does(self, deed, told):
        """What the deed tells, or its refusal."""
        then = [dict(self.now[0]), dict(self.now[1]), self.now[2], self.now[3]]
        if deed in ("promise", "close"):
            at = ("promise", "close").index(deed)
            first, last, kind = told
            if first < 0 or first >= last or last > 40 or not 0 <= kind < len(self.counts):
                return BadSpan
            answer = then[2 + at]
            then[at][answer] = told
            then[2 + at] += 1
            short = first_short(self.counts, then[1], then[0])
            if short is not None:
                return Full, short
        elif deed in ("drop", "reopen"):
            at = ("drop", "reopen").index(deed)
            if told[0] not in then[at]:
                return (NoPromise, NoClosing)[at]
            answer = None
            del then[at][told[0]]
        else:
            if not self.past:
                return NoWayBack
            self.now = self.past.pop()
            return None
        self.past.append(self.now)
        self.now = then
        return answer


class ManyDeedsTest(InnTest):
    def test_many_deeds(self):
        """Each deed on an inn and in a book: what it tells, what is refused, and all behind it."""
        seen = set()
        for seed in range(60):
            dice = Dice(seed)
            counts = [dice.below(4) for _ in range(1 + dice.below(4))]
            inn, book = Inn(counts), Book(counts)
            for _ in range(40):
                deed, told = self.a_deed(dice, book)
                answer = book.does(deed, told)
                self.assertEqual(self.does(inn, deed, told), answer, (seed, deed, told))
                self.holds(inn, book.now[0], book.now[1])
                seen.add(answer if answer in ERRORS else Full if isinstance(answer, tuple) else deed)
            check_plan(self, counts, inn.closings(), inn.promises(), inn.nights())
        self.assertEqual(seen, {BadSpan, Full, NoPromise, NoClosing, NoWayBack,
                                "promise", "close", "drop", "reopen", "undo"})

    def a_deed(self, dice, book):
        deed = ["promise", "promise", "promise", "close", "close", "drop", "reopen", "undo", "undo"][dice.below(9)]
        if deed in ("promise", "close"):
            first = dice.below(41) - 1
            return deed, (first, first + dice.below(9), dice.below(len(book.counts) + 1))
        if deed == "undo":
            return deed, ()
        return deed, (dice.below(book.now[2 + ("drop", "reopen").index(deed)] + 1),)

    def does(self, inn, deed, told):
        try:
            return getattr(inn, deed)(*told)
        except Full as full:
            return Full, (full.night, full.kind)
        except InnError as error:
            return type(error)


class BeyondTest(InnTest):
    def test_more_than_eighteen_are_no_error(self):
        inn = Inn([9, 9, 9])
        self.assertEqual([inn.promise(n, n + 8, n % 3) for n in range(25)], list(range(25)))
        self.assertEqual([inn.close(39, 40, n % 3) for n in range(25)], list(range(25)))
        self.assertEqual(len(inn.nights()), 32)
        for _ in range(50):
            inn.undo()
        self.refused(NoWayBack, inn.undo)


if __name__ == "__main__":
    unittest.main()
