"""The number of a paper: point 7, and point 8 for all ways to give rooms."""

import copy
import itertools
import unittest

from innkinds.papers import paper_number

from by_words import every_paper, every_way, great_night, kinds_by_room, moved_of, number_of, small_nights


class EmptyPaperTest(unittest.TestCase):
    def test_it_tells_how_many_are_driven_out(self):
        counts, ahead = [2, 2], {0: 0, 1: 2, 2: 3}
        wants = {0: 0, 1: 1, 2: 0}
        self.assertEqual(paper_number(counts, [0, 1, 2, 3], wants, ahead, []), 0)
        self.assertEqual(paper_number(counts, [0, 1, 3], wants, ahead, []), 1)
        self.assertEqual(paper_number(counts, [0, 1], wants, ahead, []), 2)
        self.assertEqual(paper_number(counts, [1], wants, ahead, []), 3)
        self.assertEqual(paper_number(counts, [], wants, ahead, []), 3)

    def test_nobody_wants_a_room(self):
        self.assertEqual(paper_number([2, 2], [0, 1], {}, {}, []), 0)
        self.assertEqual(paper_number([2, 2], [0], {}, {3: 1, 4: 2}, []), 0)

    def test_who_has_gone_is_not_driven_out(self):
        self.assertEqual(paper_number([2, 2], [0], {0: 0}, {0: 0, 8: 1, 9: 2}, []), 0)
        self.assertEqual(paper_number([2, 2], [0], {0: 0}, {0: 3, 8: 1, 9: 2}, []), 1)

    def test_who_did_not_have_a_room_is_not_driven_out(self):
        self.assertEqual(paper_number([2, 2], [], {0: 0, 1: 1}, {}, []), 0)
        self.assertEqual(paper_number([2, 2], [0, 1], {0: 0, 1: 1}, {1: 2}, []), 1)

    def test_a_guest_in_a_better_room_that_is_open_is_not_driven_out(self):
        self.assertEqual(paper_number([1, 1, 1], [2], {0: 0}, {0: 2}, []), 0)


class OneKindTest(unittest.TestCase):
    def test_wants_less_rooms(self):
        counts, wants = [1, 1, 2], {0: 0, 1: 1, 2: 1, 3: 2}
        told = [paper_number(counts, [0, 1, 2, 3], wants, {}, [kind]) for kind in range(3)]
        self.assertEqual(told, [0, 0, -1])

    def test_only_rooms_that_are_open_count(self):
        counts, wants = [1, 1, 2], {0: 0, 1: 1, 2: 1, 3: 2}
        told = [paper_number(counts, [0, 3], wants, {}, [kind]) for kind in range(3)]
        self.assertEqual(told, [2, 2, 0])

    def test_who_wants_less_and_had_it_stands_in_its_way(self):
        # Guest 0 wants kind 0 and had the one room of kind 1, which guest 1 wants now.
        self.assertEqual(paper_number([1, 1], [0, 1], {0: 0, 1: 1}, {0: 1}, [1]), 1)

    def test_who_wants_less_and_had_better_stands_in_its_way(self):
        self.assertEqual(paper_number([1, 1, 1], [0, 1, 2], {0: 0, 1: 1, 2: 1}, {0: 2}, [1]), 1)

    def test_who_wants_just_that_kind_does_not_stand_in_its_way(self):
        self.assertEqual(paper_number([1, 1, 1], [0, 1, 2], {0: 1, 1: 1}, {0: 2}, [1]), 0)

    def test_who_wants_a_better_kind_does_not_stand_in_its_way(self):
        self.assertEqual(paper_number([1, 1, 1], [0, 1, 2], {0: 2, 1: 1}, {0: 2}, [1]), 0)

    def test_who_had_less_does_not_stand_in_its_way(self):
        self.assertEqual(paper_number([1, 1, 1], [0, 1, 2], {0: 0, 1: 2}, {0: 1}, [2]), 0)

    def test_who_was_driven_out_does_not_stand_in_its_way(self):
        # Room 2 is closed: guest 0 counts once, as one who is driven out.
        self.assertEqual(paper_number([1, 1, 1], [0, 1], {0: 0, 1: 1}, {0: 2}, [1]), 1)
        self.assertEqual(paper_number([1, 1, 1], [0, 1], {0: 0, 1: 1}, {0: 2}, [0]), 1)

    def test_who_was_driven_out_wants_a_room_still(self):
        self.assertEqual(paper_number([1, 1], [0], {0: 1}, {0: 1}, [1]), 2)
        self.assertEqual(paper_number([1, 1], [0], {0: 0}, {0: 1}, [0]), 1)

    def test_who_has_gone_does_not_stand_in_its_way(self):
        self.assertEqual(paper_number([1, 1], [0, 1], {1: 1}, {0: 1}, [1]), 0)

    def test_who_did_not_have_a_room_stands_in_no_way(self):
        self.assertEqual(paper_number([1, 1], [0, 1], {0: 0, 1: 1}, {}, [1]), 0)

    def test_nobody_stands_in_the_way_of_kind_0(self):
        self.assertEqual(paper_number([1, 1], [0, 1], {0: 0, 1: 0}, {0: 1, 1: 0}, [0]), 0)

    def test_several_stand_in_its_way(self):
        self.assertEqual(paper_number([3, 3], [0, 1, 2, 3, 4, 5], {n: n // 3 for n in range(6)},
                                      {0: 3, 1: 4, 2: 5}, [1]), 3)


class SeveralKindsTest(unittest.TestCase):
    def test_who_stands_in_the_way_of_two_kinds_counts_once(self):
        # Guest 0 had the best room; 1 and 2 want just as much as there is of kinds 1 and 2.
        counts, rooms = [1, 1, 1], [0, 1, 2]
        wants, ahead = {0: 0, 1: 1, 2: 2}, {0: 2}
        self.assertEqual(paper_number(counts, rooms, wants, ahead, [1]), 1)
        self.assertEqual(paper_number(counts, rooms, wants, ahead, [2]), 1)
        self.assertEqual(paper_number(counts, rooms, wants, ahead, [1, 2]), 1)

    def test_who_stands_in_the_way_of_more_kinds_counts_once(self):
        counts, rooms = [1, 1, 1, 1], [0, 1, 2, 3]
        wants, ahead = {0: 0, 1: 1, 2: 2, 3: 3}, {0: 3}
        for paper in [[1], [2], [3], [1, 2], [2, 3], [1, 3], [1, 2, 3], [0, 1, 2, 3]]:
            self.assertEqual(paper_number(counts, rooms, wants, ahead, paper), 1, paper)

    def test_each_way_of_a_guest_alone(self):
        # Wants 0, had kind 3: in the way of kinds 1, 2, 3; rooms of them or better: 3, 2, 1.
        counts, rooms = [1, 1, 1, 1], [0, 1, 2, 3]
        told = {(1,): -2, (2,): -1, (3,): 0, (1, 2): -4, (1, 3): -3, (2, 3): -2, (1, 2, 3): -5}
        for paper, number in told.items():
            self.assertEqual(paper_number(counts, rooms, {4: 0}, {4: 3}, list(paper)), number, paper)

    def test_two_guests_in_the_way_of_two_kinds(self):
        # Both stand where another one is to go: 0 in kind 1, 1 in kind 2.
        counts, rooms = [1, 1, 1], [0, 1, 2]
        wants, ahead = {0: 0, 1: 1, 2: 2}, {0: 1, 1: 2}
        self.assertEqual(paper_number(counts, rooms, wants, ahead, [1]), 1)
        self.assertEqual(paper_number(counts, rooms, wants, ahead, [2]), 1)
        self.assertEqual(paper_number(counts, rooms, wants, ahead, [1, 2]), 2)

    def test_ways_that_overlap(self):
        # 0 stands in the way of 1 and 2, 1 of 2 and 3: with 1, 2 and 3 on the paper each counts once.
        counts, rooms = [1, 1, 1, 1], [0, 1, 2, 3]
        wants, ahead = {0: 0, 1: 1, 2: 3, 3: 1}, {0: 2, 1: 3}
        self.assertEqual(paper_number(counts, rooms, wants, ahead, [1, 3]), 2)
        self.assertEqual(paper_number(counts, rooms, wants, ahead, [1, 2, 3]), 1)
        self.assertEqual(paper_number(counts, rooms, wants, ahead, [2]), 1)

    def test_driven_out_and_in_the_way(self):
        counts, rooms = [2, 1, 1], [0, 1, 3]
        wants, ahead = {0: 0, 1: 0, 2: 2}, {0: 2, 1: 3}
        self.assertEqual(paper_number(counts, rooms, wants, ahead, []), 1)
        self.assertEqual(paper_number(counts, rooms, wants, ahead, [2]), 2)
        self.assertEqual(paper_number(counts, rooms, wants, ahead, [1, 2]), 2)

    def test_all_kinds_of_six(self):
        counts, rooms = [1] * 6, list(range(6))
        wants = {n: n for n in range(6)}
        ahead = {n: n + 1 for n in range(5)}
        self.assertEqual(paper_number(counts, rooms, wants, ahead, list(range(6))), 5)
        self.assertEqual(paper_number(counts, rooms, wants, {0: 5}, list(range(6))), 1)
        self.assertEqual(paper_number(counts, rooms, wants, {}, list(range(6))), 0)
        self.assertEqual(paper_number(counts, [], wants, ahead, list(range(6))), 5 + 21)

    def test_kinds_without_a_room(self):
        counts, rooms = [1, 0, 1], [0, 1]
        for paper in [[1], [2], [1, 2]]:
            self.assertEqual(paper_number(counts, rooms, {0: 0, 1: 2}, {0: 1}, paper), 1, paper)


class ByWordsTest(unittest.TestCase):
    def test_many_small_nights(self):
        """Each paper of each small night, among them short ones, and what kinds of guests there are."""
        seen = set()
        for night in small_nights(most=3):
            for paper in every_paper(night[0]):
                self.assertEqual(paper_number(*night, paper), number_of(*night, paper), (night, paper))
                seen.update(what_is_there(*night, paper))
        self.assertEqual(seen, {"driven", "ways 0", "ways 1", "ways 2", "ways 3", "gone", "new"})

    def test_great_nights(self):
        for seed in range(150):
            night = great_night(seed)
            for paper in every_paper(night[0]):
                self.assertEqual(paper_number(*night, paper), number_of(*night, paper), (seed, paper))

    def test_no_way_moves_fewer_than_the_number_of_any_paper(self):
        for night in small_nights(most=3):
            numbers = [(paper_number(*night, paper), paper) for paper in every_paper(night[0])]
            for given in every_way(*night[:3]):
                moved = moved_of(given, night[3])
                self.assertGreaterEqual(len(moved), max(numbers)[0], (night, given, max(numbers)))

    def test_some_paper_tells_just_the_fewest(self):
        for night in small_nights(most=3):
            fewest = min((len(moved_of(given, night[3])) for given in every_way(*night[:3])), default=None)
            if fewest is not None:
                best = max(paper_number(*night, paper) for paper in every_paper(night[0]))
                self.assertEqual(best, fewest, night)


def what_is_there(counts, rooms, wants, ahead, paper):
    house = kinds_by_room(counts)
    if any(n not in wants for n in ahead):
        yield "gone"
    for n, want in wants.items():
        if n not in ahead:
            yield "new"
        elif ahead[n] not in rooms:
            yield "driven"
        else:
            yield f"ways {len([kind for kind in paper if want < kind <= house[ahead[n]]])}"


class UnchangedTest(unittest.TestCase):
    def test_what_is_handed_in_stays(self):
        for seed in range(40):
            counts, rooms, wants, ahead = great_night(seed)
            paper = list(range(len(counts)))
            handed = (counts, rooms, list(wants.items()), list(ahead.items()), paper)
            kept = copy.deepcopy(handed)
            paper_number(counts, rooms, wants, ahead, paper)
            self.assertEqual((counts, rooms, list(wants.items()), list(ahead.items()), paper), kept)

    def test_the_order_of_the_dicts_does_not_matter(self):
        counts, rooms = [1, 1, 1, 1], [0, 1, 2, 3]
        wants, ahead = {0: 0, 1: 1, 2: 3, 3: 1}, {0: 2, 1: 3, 9: 0}
        for one in itertools.permutations(wants):
            for other in itertools.permutations(ahead):
                told = paper_number(counts, rooms, {n: wants[n] for n in one}, {n: ahead[n] for n in other},
                                    [1, 3])
                self.assertEqual(told, 2)

    def test_the_same_asked_again_is_the_same(self):
        for seed in range(40):
            night = great_night(seed)
            paper = list(range(len(night[0])))
            self.assertEqual(paper_number(*night, paper), paper_number(*copy.deepcopy(night), paper))

    def test_each_question_is_about_what_is_handed_in_now(self):
        rooms, wants, ahead = [0, 1], {0: 0, 1: 1}, {0: 1}
        self.assertEqual(paper_number([1, 1], rooms, wants, ahead, [1]), 1)
        ahead[0] = 0
        self.assertEqual(paper_number([1, 1], rooms, wants, ahead, [1]), 0)
        rooms.remove(0)
        self.assertEqual(paper_number([1, 1], rooms, wants, ahead, [1]), 1)


class BeyondTest(unittest.TestCase):
    def test_no_error_somewhat_beyond_the_limits(self):
        self.assertEqual(paper_number([1] * 8, list(range(8)), {0: 0, 1: 7}, {0: 7}, [7]), 1)
        self.assertEqual(paper_number([12], list(range(12)), {n: 0 for n in range(25)}, {}, [0]), 13)
        for paper in [[-1], [2], [7], [-1, 0, 1, 2, 3]]:
            self.assertIsInstance(paper_number([1, 1], [0, 1], {0: 0, 1: 1}, {0: 1}, paper), int)
        self.assertIsInstance(paper_number([1, 1], [0, 1, 2], {0: 2, 1: -1}, {0: 2, 1: 5}, [1]), int)


if __name__ == "__main__":
    unittest.main()
