"""Houses and their rooms: points 1 and 2."""

import itertools
import unittest

from innkinds.houses import is_house, kind_of, room_count, rooms_of

HOUSES = [[0], [3], [9], [2, 0, 3], [0, 2], [2, 0], [0, 0, 0], [1, 2, 3, 4, 5, 6], [9, 9, 9, 9, 9, 9],
          [0, 0, 4, 0, 0, 1]]


class IsHouseTest(unittest.TestCase):
    def test_one_to_six_kinds(self):
        for many in range(1, 7):
            self.assertIs(is_house([2] * many), True, many)

    def test_no_kind(self):
        self.assertIs(is_house([]), False)

    def test_seven_kinds_and_more(self):
        for many in [7, 8, 40, 160, 5000]:
            self.assertIs(is_house([1] * many), False, many)
            self.assertIs(is_house([0] * many), False, many)

    def test_counts_at_the_edges(self):
        for count, good in [(-1, False), (0, True), (9, True), (10, False)]:
            self.assertIs(is_house([count]), good, count)

    def test_counts_at_the_edges_at_each_place(self):
        for many in range(1, 7):
            for at in range(many):
                for count, good in [(-1, False), (0, True), (9, True), (10, False)]:
                    counts = [4] * many
                    counts[at] = count
                    self.assertIs(is_house(counts), good, counts)

    def test_numbers_of_any_size(self):
        for count in [11, 100, 10 ** 30, -2, -100, -10 ** 30, 2 ** 64, -2 ** 64]:
            self.assertIs(is_house([count]), False, count)
            self.assertIs(is_house([1, count, 1]), False, count)

    def test_house_without_a_room(self):
        self.assertIs(is_house([0, 0, 0]), True)


class RoomsTest(unittest.TestCase):
    def test_room_count(self):
        self.assertEqual(room_count([2, 0, 3]), 5)
        self.assertEqual(room_count([0]), 0)
        self.assertEqual(room_count([9]), 9)
        self.assertEqual(room_count([9] * 6), 54)

    def test_kind_of(self):
        self.assertEqual([kind_of([2, 1, 3], room) for room in range(6)], [0, 0, 1, 2, 2, 2])

    def test_kind_of_where_kinds_have_no_room(self):
        self.assertEqual([kind_of([0, 2, 0, 0, 1], room) for room in range(3)], [1, 1, 4])

    def test_rooms_of(self):
        self.assertEqual(rooms_of([2, 1, 3], 0), [0, 1])
        self.assertEqual(rooms_of([2, 1, 3], 1), [2])
        self.assertEqual(rooms_of([2, 1, 3], 2), [3, 4, 5])

    def test_rooms_of_a_kind_without_a_room(self):
        self.assertEqual(rooms_of([0, 2, 0], 0), [])
        self.assertEqual(rooms_of([0, 2, 0], 1), [0, 1])
        self.assertEqual(rooms_of([0, 2, 0], 2), [])

    def test_rooms_of_a_kind_that_there_is_not(self):
        for kind in [-1, -2, -3, -4, 3, 10 ** 9]:
            self.assertEqual(rooms_of([2, 1, 3], kind), [], kind)

    def test_kind_of_a_room_behind_the_last_one_is_no_error(self):
        self.assertIsNone(kind_of([2, 1, 3], 6))

    def test_each_room_is_of_one_kind(self):
        for counts in HOUSES:
            told = [rooms_of(counts, kind) for kind in range(len(counts))]
            self.assertEqual([len(rooms) for rooms in told], counts)
            self.assertEqual(list(itertools.chain(*told)), list(range(room_count(counts))))
            for kind, rooms in enumerate(told):
                self.assertEqual([kind_of(counts, room) for room in rooms], [kind] * len(rooms))


class UnchangedTest(unittest.TestCase):
    def test_counts_stay_as_they_were(self):
        for counts in HOUSES + [[], [10], [-1, 10 ** 30], [1] * 200]:
            kept = list(counts)
            is_house(counts)
            room_count(counts)
            self.assertEqual(counts, kept)
        for counts in HOUSES:
            kept = list(counts)
            for kind in range(len(counts)):
                rooms_of(counts, kind)
            for room in range(sum(counts)):
                kind_of(counts, room)
            self.assertEqual(counts, kept)

    def test_told_rooms_are_the_askers_own(self):
        counts = [2, 1, 3]
        told = rooms_of(counts, 2)
        told.append(9)
        told[0] = 8
        self.assertEqual(rooms_of(counts, 2), [3, 4, 5])
        self.assertEqual(rooms_of(counts, 2), [3, 4, 5])
        rooms_of(counts, 0).clear()
        self.assertEqual(rooms_of(counts, 0), [0, 1])

    def test_what_is_done_later_does_not_change_told_rooms(self):
        counts = [2, 1, 3]
        told = rooms_of(counts, 2)
        counts[0] = 9
        rooms_of(counts, 2)
        rooms_of(counts, 0)
        self.assertEqual(told, [3, 4, 5])

    def test_each_question_is_about_the_counts_as_they_are(self):
        counts = [2, 1]
        self.assertEqual(rooms_of(counts, 1), [2])
        counts[0] = 0
        self.assertEqual(rooms_of(counts, 1), [0])
        self.assertEqual(room_count(counts), 1)
        self.assertEqual(kind_of(counts, 0), 1)
        counts[0] = 10
        self.assertIs(is_house(counts), False)


if __name__ == "__main__":
    unittest.main()
