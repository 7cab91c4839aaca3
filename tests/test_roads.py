"""Promises 1 to 4 and the spread of 13, over roadgaps/roads.py."""

import unittest

from cases import NO_ROADS, ROADS, small_roads
from roadgaps.errors import NoRoad
from roadgaps.roads import distances, mirrored, spread

ASKED = (distances, mirrored, spread)


class RefusalTest(unittest.TestCase):
    def test_any_other_list_is_refused_with_no_road(self):
        for ask in ASKED:
            for name, places in NO_ROADS.items():
                with self.subTest(ask=ask.__name__, places=name):
                    with self.assertRaises(NoRoad) as caught:
                        ask(places)
                    self.assertIs(type(caught.exception), NoRoad)

    def test_a_refused_list_stays_as_it_was(self):
        for ask in ASKED:
            for name, places in NO_ROADS.items():
                handed_in = list(places)
                with self.subTest(ask=ask.__name__, places=name):
                    with self.assertRaises(NoRoad):
                        ask(handed_in)
                    self.assertEqual(handed_in, places)

    def test_a_road_is_not_refused(self):
        for ask in ASKED:
            for name, road in ROADS.items():
                with self.subTest(ask=ask.__name__, road=name):
                    self.assertIs(type(ask(road)), list)


class DistancesTest(unittest.TestCase):
    def test_by_hand(self):
        self.assertEqual(distances([0, 2, 5]), [2, 3, 5])
        self.assertEqual(distances([0, 1, 4, 6]), [1, 2, 3, 4, 5, 6])
        self.assertEqual(distances([0, 10, 11, 13]), [1, 2, 3, 10, 11, 13])

    def test_a_distance_stands_as_often_as_pairs_have_it(self):
        self.assertEqual(distances([0, 1, 2]), [1, 1, 2])
        self.assertEqual(distances([0, 3, 6, 9]), [3, 3, 3, 6, 6, 9])
        self.assertEqual(distances([0, 2, 4, 7, 10]), [2, 2, 3, 3, 4, 5, 6, 7, 8, 10])

    def test_one_place_has_none(self):
        self.assertEqual(distances([0]), [])

    def test_two_places_have_one(self):
        self.assertEqual(distances([0, 1]), [1])
        self.assertEqual(distances([0, 4000]), [4000])

    def test_fifty_places(self):
        expected = []
        for gap in range(1, 50):
            expected.extend([gap] * (50 - gap))
        self.assertEqual(distances(list(range(50))), expected)
        self.assertEqual(len(expected), 1225)


class MirroredTest(unittest.TestCase):
    def test_by_hand(self):
        self.assertEqual(mirrored([0, 1, 4, 6]), [0, 2, 5, 6])
        self.assertEqual(mirrored([0, 3, 4]), [0, 1, 4])
        self.assertEqual(mirrored([0, 1, 4000]), [0, 3999, 4000])

    def test_a_road_that_is_its_own_mirror(self):
        self.assertEqual(mirrored([0]), [0])
        self.assertEqual(mirrored([0, 7]), [0, 7])
        self.assertEqual(mirrored([0, 2, 5, 7]), [0, 2, 5, 7])

    def test_fifty_places(self):
        self.assertEqual(mirrored(list(range(49)) + [4000]), [0] + list(range(3952, 4001)))

    def test_mirrored_twice_is_the_road_and_has_its_distances(self):
        for road in small_roads(7):
            with self.subTest(road=road):
                self.assertEqual(mirrored(mirrored(road)), road)
                self.assertEqual(distances(mirrored(road)), distances(road))


class SpreadTest(unittest.TestCase):
    def test_by_hand(self):
        self.assertEqual(spread([0, 1, 2]), [3, 2, 1])
        self.assertEqual(spread([0, 2, 5]), [3, 0, 1, 1, 0, 1])
        self.assertEqual(spread([0, 3, 6, 9]), [4, 0, 0, 3, 0, 0, 2, 0, 0, 1])

    def test_one_place(self):
        self.assertEqual(spread([0]), [1])

    def test_it_reaches_to_the_length(self):
        self.assertEqual(spread([0, 4000]), [2] + [0] * 3999 + [1])

    def test_fifty_places(self):
        self.assertEqual(spread(list(range(50))), list(range(50, 0, -1)))

    def test_it_counts_the_pairs_of_every_small_road(self):
        for road in small_roads(7):
            behind = [b - a for a in road for b in road]
            with self.subTest(road=road):
                self.assertEqual(spread(road), [behind.count(d) for d in range(road[-1] + 1)])


class OwnAnswersTest(unittest.TestCase):
    def test_what_is_handed_in_stays_as_it_was(self):
        for ask in ASKED:
            for name, road in ROADS.items():
                handed_in = list(road)
                with self.subTest(ask=ask.__name__, road=name):
                    ask(handed_in)
                    self.assertEqual(handed_in, road)

    def test_what_is_told_may_be_changed(self):
        for ask in ASKED:
            for name, road in ROADS.items():
                handed_in = list(road)
                with self.subTest(ask=ask.__name__, road=name):
                    told = ask(handed_in)
                    kept = list(told)
                    told.append(77)
                    told[0] = 99
                    self.assertEqual(handed_in, road)
                    self.assertEqual(ask(handed_in), kept)

    def test_what_was_handed_in_may_be_changed_later(self):
        for ask in ASKED:
            handed_in = [0, 2, 7]
            told = ask(handed_in)
            kept = list(told)
            handed_in[1] = 3
            with self.subTest(ask=ask.__name__):
                self.assertEqual(told, kept)
                self.assertEqual(ask(handed_in), ask([0, 3, 7]))
                self.assertEqual(ask([0, 2, 7]), kept)

    def test_whole_numbers_alone(self):
        for ask in ASKED:
            for name, road in ROADS.items():
                with self.subTest(ask=ask.__name__, road=name):
                    self.assertTrue(all(type(number) is int for number in ask(road)))


if __name__ == "__main__":
    unittest.main()
