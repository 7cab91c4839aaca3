"""Promises 8 to 11 and the refusals of 5, over roadgaps/search.py."""

import itertools
import unittest
from collections import Counter, defaultdict

from cases import NO_GAPS, NO_ROADS, TOO_MANY, refusal_of, small_roads
from roadgaps.errors import NoGaps, NoRoad, TooMany
from roadgaps.search import first_road, roads, trials, twins

ASKED = (trials, roads, first_road)

SEVEN_IN_A_ROW = [1] * 6 + [2] * 5 + [3] * 4 + [4] * 3 + [5] * 2 + [6]


def small_lists(greatest, most):
    """All lists of distances with at most that many numbers, none above the greatest."""
    for size in range(most + 1):
        for gaps in itertools.combinations_with_replacement(range(1, greatest + 1), size):
            yield list(gaps)


def pairs_counted(places):
    return Counter(b - a for a, b in itertools.combinations(sorted(places), 2))


class RefusalTest(unittest.TestCase):
    def test_too_many_also_where_the_list_has_other_faults(self):
        for ask, (name, gaps) in itertools.product(ASKED, TOO_MANY.items()):
            with self.subTest(ask=ask.__name__, gaps=name):
                self.assertIs(refusal_of(ask, gaps), TooMany)

    def test_no_gaps(self):
        for ask, (name, gaps) in itertools.product(ASKED, NO_GAPS.items()):
            with self.subTest(ask=ask.__name__, gaps=name):
                self.assertIs(refusal_of(ask, gaps), NoGaps)

    def test_21_distances_are_not_refused(self):
        for ask in ASKED:
            for gaps in (SEVEN_IN_A_ROW, [1] * 21, [4000] * 21, list(range(1, 22)), list(range(3980, 4001))):
                with self.subTest(ask=ask.__name__, gaps=gaps):
                    self.assertIsNone(refusal_of(ask, gaps))


class TrialsTest(unittest.TestCase):
    def test_none_where_nothing_is_left_over(self):
        self.assertEqual(trials([]), [])
        self.assertEqual(trials([1]), [])
        self.assertEqual(trials([7]), [])
        self.assertEqual(trials([4000]), [])

    def test_three_places(self):
        self.assertEqual(trials([2, 3, 5]), [(2, None, []), (3, None, [])])
        self.assertEqual(trials([1, 3999, 4000]), [(1, None, []), (3999, None, [])])

    def test_a_ruler_place_by_place(self):
        self.assertEqual(trials([1, 2, 3, 4, 5, 6]), [
            (1, None, [(2, 1, []), (4, None, [])]),
            (5, None, [(2, None, []), (4, 1, [])]),
        ])

    def test_the_two_places_being_one(self):
        self.assertEqual(trials([1, 1, 2]), [(1, None, [])])
        self.assertEqual(trials([1, 2]), [(1, 1, [])])
        self.assertEqual(trials([1, 2, 3, 6]), [(3, 3, [])])

    def test_the_two_places_being_one_behind_another_trial(self):
        self.assertEqual(trials([1, 2, 3, 4]), [(1, None, [(2, 1, [])]), (3, None, [(2, 1, [])])])

    def test_a_place_that_is_there_already(self):
        self.assertEqual(trials([1, 1, 4, 5, 5, 6]), [
            (1, None, [(5, None, [])]),
            (5, None, [(1, None, [])]),
        ])

    def test_both_places_there_already(self):
        self.assertEqual(trials([3, 3, 3]), [])
        self.assertEqual(trials([2, 3, 3]), [])
        self.assertEqual(trials([4000] * 21), [])

    def test_both_places_there_already_behind_another_trial(self):
        self.assertEqual(trials([1, 1, 4, 5, 5, 5, 6]), [
            (1, None, [(5, None, [])]),
            (5, None, [(1, None, [])]),
        ])

    def test_what_is_lacking_ends_the_trials(self):
        self.assertEqual(trials([2, 5]), [(2, 3, []), (3, 3, [])])
        self.assertEqual(trials([1, 1, 3, 4, 5]), [
            (1, None, [(2, 2, []), (3, 2, [])]),
            (4, None, [(2, 2, []), (3, 2, [])]),
        ])
        self.assertEqual(trials([1, 1, 1, 4, 5]), [(1, None, [(4, 3, [])]), (4, None, [(1, 3, [])])])

    def test_the_least_of_what_is_lacking(self):
        self.assertEqual(trials([4, 9]), [(4, 5, []), (5, 5, [])])
        self.assertEqual(trials([8, 9]), [(1, 1, []), (8, 1, [])])
        self.assertEqual(trials([1, 7, 10]), [(3, 3, []), (7, 3, [])])

    def test_a_trial_is_a_tuple_of_three(self):
        for gaps in ([1, 2, 3, 4, 5, 6], [1, 2, 3, 4], SEVEN_IN_A_ROW):
            with self.subTest(gaps=gaps):
                self.check_kinds(trials(gaps))

    def check_kinds(self, told):
        self.assertIs(type(told), list)
        for trial in told:
            self.assertIs(type(trial), tuple)
            place, lack, further = trial
            self.assertIs(type(place), int)
            self.assertIn(type(lack), (int, type(None)))
            self.check_kinds(further)

    def test_every_small_list_by_the_words_of_8_and_9(self):
        for gaps in itertools.chain(small_lists(7, 6), small_lists(4, 10)):
            with self.subTest(gaps=gaps):
                told = trials(gaps)
                if gaps == []:
                    self.assertEqual(told, [])
                else:
                    self.check_trials(told, [0, gaps[-1]], gaps)

    def check_trials(self, told, places, gaps):
        rest = Counter(gaps) - pairs_counted(places)
        wanted = set()
        if rest:
            wanted = {max(rest), gaps[-1] - max(rest)} - set(places)
        self.assertEqual([trial[0] for trial in told], sorted(wanted))
        for place, lack, further in told:
            lacking = pairs_counted(places + [place]) - Counter(gaps)
            self.assertEqual(lack, min(lacking, default=None))
            if lack is None:
                self.check_trials(further, places + [place], gaps)
            else:
                self.assertEqual(further, [])


class RoadsTest(unittest.TestCase):
    def test_no_distances(self):
        self.assertEqual(roads([]), [[0]])

    def test_one_distance(self):
        self.assertEqual(roads([1]), [[0, 1]])
        self.assertEqual(roads([4000]), [[0, 4000]])

    def test_a_road_and_the_mirrored_one(self):
        self.assertEqual(roads([2, 3, 5]), [[0, 2, 5], [0, 3, 5]])
        self.assertEqual(roads([1, 2, 3, 4, 5, 6]), [[0, 1, 4, 6], [0, 2, 5, 6]])

    def test_a_road_that_several_trials_come_to_is_told_once(self):
        self.assertEqual(roads([1, 1, 4, 5, 5, 6]), [[0, 1, 5, 6]])
        self.assertEqual(roads(SEVEN_IN_A_ROW), [[0, 1, 2, 3, 4, 5, 6]])

    def test_a_list_that_several_roads_fit(self):
        gaps = [1, 1, 2, 2, 3, 4, 5, 5, 6, 6, 7, 8, 9, 10, 11]
        self.assertEqual(roads(gaps), [
            [0, 1, 2, 6, 8, 11],
            [0, 1, 6, 7, 9, 11],
            [0, 2, 4, 5, 10, 11],
            [0, 3, 5, 9, 10, 11],
        ])

    def test_a_list_that_no_road_fits(self):
        self.assertEqual(roads([3, 3, 3]), [])
        self.assertEqual(roads([1, 2, 4]), [])
        self.assertEqual(roads([1, 1, 1, 2, 2, 2]), [])
        self.assertEqual(roads([1] * 21), [])
        self.assertEqual(roads(list(range(1, 22))), [])

    def test_a_number_of_distances_that_no_road_has(self):
        for gaps in ([1, 2], [1, 1], [1, 2, 3, 4], [1, 1, 4, 5, 5, 5, 6], SEVEN_IN_A_ROW[1:], [4000] * 20):
            with self.subTest(gaps=gaps):
                self.assertEqual(roads(gaps), [])

    def test_every_small_list_against_every_small_road(self):
        fitting = defaultdict(list)
        for road in small_roads(6):
            fitting[tuple(sorted(pairs_counted(road).elements()))].append(road)
        for gaps in itertools.chain(small_lists(6, 6), [list(gaps) for gaps in fitting]):
            with self.subTest(gaps=gaps):
                self.assertEqual(roads(gaps), sorted(fitting.get(tuple(gaps), [])))

    def test_every_road_of_six_places_up_to_fourteen(self):
        fitting = defaultdict(list)
        for length in range(5, 15):
            for inner in itertools.combinations(range(1, length), 4):
                road = [0, *inner, length]
                fitting[tuple(sorted(pairs_counted(road).elements()))].append(road)
        self.assertEqual(max(len(told) for told in fitting.values()), 4)
        for gaps, expected in fitting.items():
            with self.subTest(gaps=gaps):
                self.assertEqual(roads(list(gaps)), expected)


class FirstRoadTest(unittest.TestCase):
    def test_the_first_one(self):
        self.assertEqual(first_road([]), [0])
        self.assertEqual(first_road([9]), [0, 9])
        self.assertEqual(first_road([1, 2, 3, 4, 5, 6]), [0, 1, 4, 6])
        self.assertEqual(first_road([1, 1, 2, 2, 3, 4, 5, 5, 6, 6, 7, 8, 9, 10, 11]), [0, 1, 2, 6, 8, 11])

    def test_none_where_no_road_fits(self):
        self.assertIsNone(first_road([1, 2]))
        self.assertIsNone(first_road([3, 3, 3]))
        self.assertIsNone(first_road([1, 2, 4]))

    def test_the_first_in_order_though_another_is_tried_first(self):
        for gaps in small_lists(5, 6):
            with self.subTest(gaps=gaps):
                self.assertEqual(first_road(gaps), min(roads(gaps), default=None))


class TwinsTest(unittest.TestCase):
    def test_no_twin(self):
        for road in ([0], [0, 5], [0, 2, 5], [0, 1, 4, 6], [0, 1, 5, 6], [0, 2, 4, 7, 10], [0, 1, 2, 3, 4, 5, 6]):
            with self.subTest(road=road):
                self.assertEqual(twins(road), [])

    def test_six_places_with_a_twin(self):
        self.assertEqual(twins([0, 1, 2, 6, 8, 11]), [[0, 1, 6, 7, 9, 11], [0, 2, 4, 5, 10, 11]])
        self.assertEqual(twins([0, 3, 5, 9, 10, 11]), [[0, 1, 6, 7, 9, 11], [0, 2, 4, 5, 10, 11]])
        self.assertEqual(twins([0, 1, 6, 7, 9, 11]), [[0, 1, 2, 6, 8, 11], [0, 3, 5, 9, 10, 11]])
        self.assertEqual(twins([0, 1, 4, 10, 12, 17]), [[0, 1, 8, 11, 13, 17], [0, 4, 6, 9, 16, 17]])

    def test_seven_places_with_a_twin(self):
        self.assertEqual(twins([0, 1, 2, 5, 7, 9, 12]), [[0, 1, 5, 7, 8, 10, 12], [0, 2, 4, 5, 7, 11, 12]])

    def test_the_greatest_length(self):
        self.assertEqual(twins([0, 4000]), [])
        self.assertEqual(twins([0, 1, 10, 100, 1000, 3000, 4000]), [])

    def test_no_road(self):
        for name, places in NO_ROADS.items():
            with self.subTest(places=name):
                self.assertIs(refusal_of(twins, places), NoRoad)

    def test_more_than_seven_places(self):
        for road in (list(range(8)), [0, 1, 2, 4, 8, 16, 32, 64], list(range(50)), list(range(49)) + [4000]):
            with self.subTest(road=road):
                self.assertIs(refusal_of(twins, road), TooMany)

    def test_no_road_comes_ahead_of_too_many(self):
        for places in (list(range(1, 9)), list(range(7)) + [6], list(range(51)), list(range(9)) + [4001]):
            with self.subTest(places=places):
                self.assertIs(refusal_of(twins, places), NoRoad)


if __name__ == "__main__":
    unittest.main()
