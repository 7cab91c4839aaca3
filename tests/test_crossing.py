"""Promises 12 and 13, over roadgaps/crossing.py."""

import itertools
import unittest

from cases import NO_ROADS, ROADS, refusal_of, small_roads
from roadgaps.crossing import crossed
from roadgaps.errors import Meets, NoRoad, TooMany
from roadgaps.roads import distances, mirrored, spread


def sum_comes_twice(one, other):
    sums = [a + b for a in one for b in other]
    return len(set(sums)) < len(sums)


def pairs_of_small_roads():
    return list(itertools.product(small_roads(5), list(small_roads(3)) + [[0, 6], [0, 6, 13], [0, 7, 20, 26]]))


def told_crossings():
    """The pairs of small roads that are crossed, and what is told of each."""
    for one, other in pairs_of_small_roads():
        if refusal_of(crossed, one, other) is None:
            yield one, other, crossed(one, other)


class CrossedTest(unittest.TestCase):
    def test_by_hand(self):
        self.assertEqual(
            crossed([0, 1, 3], [0, 4, 12]),
            ([0, 1, 3, 4, 5, 7, 12, 13, 15], [0, 1, 3, 8, 9, 11, 12, 13, 15]),
        )

    def test_the_other_one_is_mirrored(self):
        self.assertEqual(
            crossed([0, 4, 12], [0, 1, 3]),
            ([0, 1, 3, 4, 5, 7, 12, 13, 15], [0, 2, 3, 4, 6, 7, 12, 14, 15]),
        )

    def test_an_other_one_that_is_its_own_mirror(self):
        self.assertEqual(crossed([0, 1, 3], [0, 4]), ([0, 1, 3, 4, 5, 7], [0, 1, 3, 4, 5, 7]))
        self.assertEqual(crossed([0, 1], [0, 2]), ([0, 1, 2, 3], [0, 1, 2, 3]))

    def test_a_tuple_of_two_lists(self):
        for one, other in (([0], [0]), ([0, 1], [0, 2]), ([0, 1, 3], [0, 4, 12])):
            told = crossed(one, other)
            with self.subTest(one=one, other=other):
                self.assertIs(type(told), tuple)
                self.assertEqual([type(road) for road in told], [list, list])
                self.assertIsNot(told[0], told[1])

    def test_a_road_of_one_place(self):
        self.assertEqual(crossed([0], [0]), ([0], [0]))
        self.assertEqual(crossed([0], [0, 1, 4, 6]), ([0, 1, 4, 6], [0, 2, 5, 6]))
        self.assertEqual(crossed([0, 1, 4, 6], [0]), ([0, 1, 4, 6], [0, 1, 4, 6]))
        for name, road in ROADS.items():
            with self.subTest(road=name):
                self.assertEqual(crossed([0], road), (road, mirrored(road)))
                self.assertEqual(crossed(road, [0]), (road, road))

    def test_small_roads_have_all_sums_in_order(self):
        for one, other, told in told_crossings():
            with self.subTest(one=one, other=other):
                self.assertEqual(told[0], sorted(a + b for a in one for b in other))
                self.assertEqual(told[1], sorted(a + b for a in one for b in mirrored(other)))

    def test_both_are_roads_with_the_same_distances(self):
        number = 0
        for one, other, (straight, turned) in told_crossings():
            number += 1
            with self.subTest(one=one, other=other):
                self.assertEqual(distances(straight), distances(turned))
        self.assertGreater(number, 100)


class RefusalTest(unittest.TestCase):
    def test_no_road(self):
        for name, places in NO_ROADS.items():
            with self.subTest(places=name):
                self.assertIs(refusal_of(crossed, places, [0, 1]), NoRoad)
                self.assertIs(refusal_of(crossed, [0, 1], places), NoRoad)
                self.assertIs(refusal_of(crossed, places, places), NoRoad)

    def test_no_road_comes_ahead_of_too_many_and_meets(self):
        fifty = list(range(50))
        for one, other in ((fifty, [0, 1, 1]), ([0, 1, 1], fifty), ([0, 4000], [1, 4000]), ([1, 4000], [0, 4000])):
            with self.subTest(one=one, other=other):
                self.assertIs(refusal_of(crossed, one, other), NoRoad)

    def test_fifty_sums(self):
        for one, other in (
            (list(range(5)), list(range(0, 50, 5))),
            (list(range(10)), list(range(0, 50, 10))),
            ([0, 50], list(range(0, 50, 2))),
            ([0], list(range(50))),
        ):
            with self.subTest(one=one, other=other):
                self.assertIsNone(refusal_of(crossed, one, other))
        self.assertEqual(crossed(list(range(5)), list(range(0, 50, 5))), (list(range(50)), list(range(50))))

    def test_fifty_one_sums(self):
        self.assertIs(refusal_of(crossed, [0, 1, 2], list(range(0, 51, 3))), TooMany)
        self.assertIs(refusal_of(crossed, list(range(0, 51, 3)), [0, 1, 2]), TooMany)

    def test_many_more_sums(self):
        self.assertIs(refusal_of(crossed, list(range(50)), [0, 50]), TooMany)
        self.assertIs(refusal_of(crossed, list(range(50)), list(range(0, 2500, 50))), TooMany)

    def test_lengths_together_of_4000(self):
        self.assertEqual(crossed([0, 1], [0, 3999]), ([0, 1, 3999, 4000], [0, 1, 3999, 4000]))
        self.assertEqual(crossed([0, 1, 2001], [0, 2, 1999])[0], [0, 1, 2, 3, 1999, 2000, 2001, 2003, 4000])
        self.assertEqual(crossed([0, 4000], [0]), ([0, 4000], [0, 4000]))

    def test_lengths_together_of_4001(self):
        self.assertIs(refusal_of(crossed, [0, 1], [0, 4000]), TooMany)
        self.assertIs(refusal_of(crossed, [0, 4000], [0, 1]), TooMany)
        self.assertIs(refusal_of(crossed, [0, 2000], [0, 2001]), TooMany)
        self.assertIs(refusal_of(crossed, [0, 4000], [0, 4000]), TooMany)

    def test_too_many_comes_ahead_of_meets(self):
        self.assertIs(refusal_of(crossed, [0, 1, 2], list(range(17))), TooMany)
        self.assertIs(refusal_of(crossed, [0, 1, 2000], [0, 1, 2001]), TooMany)

    def test_meets(self):
        self.assertIs(refusal_of(crossed, [0, 1], [0, 1]), Meets)
        self.assertIs(refusal_of(crossed, [0, 2, 5], [0, 1, 4]), Meets)
        self.assertIs(refusal_of(crossed, list(range(5)), list(range(10))), Meets)
        self.assertIs(refusal_of(crossed, [0, 2000], [0, 2000]), Meets)

    def test_a_sum_that_comes_twice_in_one_of_the_lists_alone(self):
        # 1 comes twice in the first list alone, 3 in the second alone; with the other road mirrored it is 3, then 1.
        self.assertEqual(sorted(a + b for a in [0, 1] for b in [0, 1, 3]), [0, 1, 1, 2, 3, 4])
        self.assertEqual(sorted(a + b for a in [0, 1] for b in [0, 2, 3]), [0, 1, 2, 3, 3, 4])
        self.assertIs(refusal_of(crossed, [0, 1], [0, 1, 3]), Meets)
        self.assertIs(refusal_of(crossed, [0, 1], [0, 2, 3]), Meets)

    def test_sums_meet_where_either_list_has_one_twice(self):
        # A distance of both roads brings a sum twice into both lists, so neither list has one without the other.
        for one, other in pairs_of_small_roads():
            first, second = sum_comes_twice(one, other), sum_comes_twice(one, mirrored(other))
            with self.subTest(one=one, other=other):
                self.assertEqual(first, second)
                self.assertIs(refusal_of(crossed, one, other), Meets if first or second else None)


class SpreadTest(unittest.TestCase):
    @staticmethod
    def spread_at(road, number):
        counts = spread(road)
        return counts[abs(number)] if abs(number) < len(counts) else 0

    def spread_as_told(self, one, other, number):
        around = range(-one[-1], one[-1] + 1)
        return sum(self.spread_at(one, e) * self.spread_at(other, number - e) for e in around)

    def test_by_hand(self):
        straight, turned = crossed([0, 1], [0, 2])
        self.assertEqual(spread(straight), [4, 3, 2, 1])
        self.assertEqual(spread(turned), [4, 3, 2, 1])
        self.assertEqual([self.spread_as_told([0, 1], [0, 2], d) for d in range(4)], [4, 3, 2, 1])

    def test_small_roads(self):
        for one, other, told in told_crossings():
            expected = [self.spread_as_told(one, other, d) for d in range(one[-1] + other[-1] + 1)]
            with self.subTest(one=one, other=other):
                self.assertEqual(spread(told[0]), expected)
                self.assertEqual(spread(told[1]), expected)


if __name__ == "__main__":
    unittest.main()
