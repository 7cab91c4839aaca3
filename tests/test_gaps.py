"""Promises 1 and 5 to 7, over roadgaps/gaps.py."""

import itertools
import unittest
from collections import Counter

from cases import GAPS, NO_GAPS, NO_ROADS, TOO_MANY
from roadgaps.errors import NoGaps, NoRoad, TooMany
from roadgaps.gaps import fits, lacks, left_over, part_of

ASKED = (part_of, fits, left_over, lacks)


class RefusalTest(unittest.TestCase):
    def assert_refused(self, refusal, ask, road, gaps):
        with self.subTest(ask=ask.__name__, road=road, gaps=gaps):
            road_before, gaps_before = list(road), list(gaps)
            with self.assertRaises(refusal) as caught:
                ask(road, gaps)
            self.assertIs(type(caught.exception), refusal)
            self.assertEqual((road, gaps), (road_before, gaps_before))

    def test_no_road(self):
        for ask in ASKED:
            for road in NO_ROADS.values():
                self.assert_refused(NoRoad, ask, road, [1, 2, 3])

    def test_no_road_comes_first(self):
        for ask in ASKED:
            for road in NO_ROADS.values():
                for gaps in list(TOO_MANY.values()) + list(NO_GAPS.values()):
                    self.assert_refused(NoRoad, ask, road, gaps)

    def test_too_many_also_where_the_list_has_other_faults(self):
        for ask in ASKED:
            for gaps in TOO_MANY.values():
                for road in ([0], [0, 1, 3], list(range(50))):
                    self.assert_refused(TooMany, ask, road, gaps)

    def test_no_gaps(self):
        for ask in ASKED:
            for gaps in NO_GAPS.values():
                for road in ([0], [0, 1, 3], list(range(50))):
                    self.assert_refused(NoGaps, ask, road, gaps)

    def test_a_list_of_distances_is_not_refused(self):
        for name, gaps in GAPS.items():
            with self.subTest(gaps=name):
                self.assertIs(part_of([0], gaps), True)
                self.assertIs(fits([0], gaps), gaps == [])
                self.assertEqual(left_over([0], gaps), gaps)
                self.assertIsNone(lacks([0], gaps))


class PartOfTest(unittest.TestCase):
    def test_each_distance_stands_in_the_list(self):
        self.assertIs(part_of([0, 1, 3], [1, 2, 3]), True)
        self.assertIs(part_of([0, 1, 3], [1, 2, 2, 3, 9]), True)
        self.assertIs(part_of([0, 4000], [4000]), True)
        self.assertIs(part_of([0], []), True)

    def test_a_distance_does_not_stand_in_the_list(self):
        self.assertIs(part_of([0, 1, 3], [1, 3]), False)
        self.assertIs(part_of([0, 1, 3], [2, 3]), False)
        self.assertIs(part_of([0, 1, 3], [1, 2]), False)
        self.assertIs(part_of([0, 1], []), False)

    def test_a_distance_must_stand_as_often(self):
        self.assertIs(part_of([0, 1, 2], [1, 2]), False)
        self.assertIs(part_of([0, 1, 2], [1, 2, 2]), False)
        self.assertIs(part_of([0, 1, 2], [1, 1, 2]), True)
        self.assertIs(part_of([0, 1, 2], [1, 1, 1, 2]), True)


class LeftOverTest(unittest.TestCase):
    def test_the_list_without_the_distances(self):
        self.assertEqual(left_over([0, 1, 3], [1, 2, 2, 3, 9]), [2, 9])
        self.assertEqual(left_over([0, 6], [1, 2, 3, 4, 5, 6]), [1, 2, 3, 4, 5])
        self.assertEqual(left_over([0, 3], [3, 3, 3]), [3, 3])
        self.assertEqual(left_over([0, 1, 2], [1, 1, 1, 2, 2]), [1, 2])

    def test_nothing_left_over_is_an_empty_list(self):
        self.assertEqual(left_over([0, 1, 3], [1, 2, 3]), [])
        self.assertEqual(left_over([0], []), [])

    def test_none_where_the_road_is_not_part(self):
        self.assertIsNone(left_over([0, 1, 3], [1, 3]))
        self.assertIsNone(left_over([0, 1, 2], [1, 2, 5]))
        self.assertIsNone(left_over([0, 1], []))


class FitsTest(unittest.TestCase):
    def test_part_of_it_and_nothing_left_over(self):
        self.assertIs(fits([0, 1, 4, 6], [1, 2, 3, 4, 5, 6]), True)
        self.assertIs(fits([0, 2, 5, 6], [1, 2, 3, 4, 5, 6]), True)
        self.assertIs(fits([0, 1, 2], [1, 1, 2]), True)
        self.assertIs(fits([0], []), True)

    def test_something_left_over(self):
        self.assertIs(fits([0, 1, 3], [1, 2, 3, 3]), False)
        self.assertIs(fits([0], [1]), False)

    def test_not_part_of_it(self):
        self.assertIs(fits([0, 1, 2], [1, 2]), False)
        self.assertIs(fits([0, 1, 2], [1, 2, 2]), False)
        self.assertIs(fits([0, 1], []), False)

    def test_seven_places_have_21_distances(self):
        gaps = [1] * 6 + [2] * 5 + [3] * 4 + [4] * 3 + [5] * 2 + [6]
        self.assertIs(fits([0, 1, 2, 3, 4, 5, 6], gaps), True)
        self.assertEqual(left_over([0, 6], gaps), gaps[:-1])


class LacksTest(unittest.TestCase):
    def test_none_where_nothing_is_lacking(self):
        self.assertIsNone(lacks([0, 1, 3], [1, 2, 3]))
        self.assertIsNone(lacks([0, 1, 3], [1, 2, 2, 3, 9]))
        self.assertIsNone(lacks([0], []))

    def test_the_least_that_is_lacking(self):
        self.assertEqual(lacks([0, 1, 3], []), 1)
        self.assertEqual(lacks([0, 1, 3], [1]), 2)
        self.assertEqual(lacks([0, 1, 3], [1, 2]), 3)
        self.assertEqual(lacks([0, 1, 3], [1, 3]), 2)
        self.assertEqual(lacks([0, 5, 6], [6]), 1)
        self.assertEqual(lacks([0, 4000], [3999]), 4000)

    def test_a_distance_that_stands_less_often(self):
        self.assertEqual(lacks([0, 1, 2], [1, 2]), 1)
        self.assertEqual(lacks([0, 3, 6, 9], [3, 3, 3, 6, 9]), 6)

    def test_fifty_places_beside_21_distances(self):
        self.assertEqual(lacks(list(range(50)), [1] * 21), 1)
        self.assertEqual(lacks(list(range(0, 100, 2)), list(range(1, 22))), 2)
        self.assertIs(part_of(list(range(50)), [1] * 21), False)
        self.assertIs(fits(list(range(50)), [1] * 21), False)
        self.assertIsNone(left_over(list(range(50)), [1] * 21))


class EverySmallCaseTest(unittest.TestCase):
    def test_against_counted_pairs(self):
        roads = [[0] + list(rest) for size in range(4) for rest in itertools.combinations(range(1, 5), size)]
        lists = [list(g) for n in range(7) for g in itertools.combinations_with_replacement(range(1, 5), n)]
        for road, gaps in itertools.product(roads, lists):
            needed = Counter(b - a for a, b in itertools.combinations(road, 2))
            lacking = needed - Counter(gaps)
            rest = sorted((Counter(gaps) - needed).elements())
            with self.subTest(road=road, gaps=gaps):
                self.assertEqual(lacks(road, gaps), min(lacking, default=None))
                self.assertIs(part_of(road, gaps), not lacking)
                self.assertEqual(left_over(road, gaps), None if lacking else rest)
                self.assertIs(fits(road, gaps), not lacking and not rest)


class OwnAnswersTest(unittest.TestCase):
    PAIRS = (
        ([0], []),
        ([0], [1, 4000]),
        ([0, 1, 3], [1, 2, 3]),
        ([0, 1, 3], [1, 1, 2, 3, 3]),
        ([0, 1, 3], [1, 3]),
        (list(range(50)), list(range(1, 22))),
    )

    def test_what_is_handed_in_stays_as_it_was(self):
        for ask in ASKED:
            for road, gaps in self.PAIRS:
                handed_road, handed_gaps = list(road), list(gaps)
                with self.subTest(ask=ask.__name__, road=road, gaps=gaps):
                    ask(handed_road, handed_gaps)
                    self.assertEqual((handed_road, handed_gaps), (road, gaps))

    def test_what_is_left_over_may_be_changed(self):
        for road, gaps in self.PAIRS:
            handed_road, handed_gaps = list(road), list(gaps)
            told = left_over(handed_road, handed_gaps)
            if told is None:
                continue
            kept = list(told)
            told.append(77)
            told[0] = 99
            with self.subTest(road=road, gaps=gaps):
                self.assertEqual((handed_road, handed_gaps), (road, gaps))
                self.assertEqual(left_over(handed_road, handed_gaps), kept)

    def test_what_was_handed_in_may_be_changed_later(self):
        road, gaps = [0, 1, 3], [1, 2, 3, 4]
        told = left_over(road, gaps)
        road[1] = 2
        gaps[0] = 2
        self.assertEqual(told, [4])
        self.assertIsNone(left_over(road, gaps))
        self.assertEqual(lacks(road, gaps), 1)
        self.assertIs(part_of(road, gaps), False)
        self.assertIs(fits(road, gaps), False)


if __name__ == "__main__":
    unittest.main()
