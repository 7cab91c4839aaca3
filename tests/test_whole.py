"""What the document promises over the whole program: promise 1, and how its parts stand to one another."""

import copy
import itertools
import unittest

from cases import lists_within, refusal_of, small_roads
from roadgaps.crossing import crossed
from roadgaps.gaps import fits, lacks, left_over, part_of
from roadgaps.notes import gaps_shown, read_gaps, read_road, road_shown
from roadgaps.roads import distances, mirrored, spread
from roadgaps.search import first_road, roads, trials, twins

SOME_GAPS = (
    [],
    [4],
    [1, 2],
    [1, 1, 2],
    [3, 3, 3],
    [1, 2, 3, 4, 5, 6],
    [1, 1, 4, 5, 5, 6],
    [1, 1, 4, 5, 5, 5, 6],
    [1, 1, 2, 2, 3, 4, 5, 5, 6, 6, 7, 8, 9, 10, 11],
    list(range(1, 22)),
)
SOME_ROADS = ([0], [0, 4], [0, 1, 3], [0, 1, 5, 6], [0, 1, 2, 6, 8, 11], [0, 1, 2, 5, 7, 9, 12])
SOME_CROSSINGS = (([0], [0]), ([0], [0, 2, 3]), ([0, 2, 3], [0]), ([0, 1], [0, 2]), ([0, 1, 3], [0, 4, 12]))

REFUSED_GAPS = ([2, 1], [0, 1], [4001], [1] * 22, list(range(22, 0, -1)))
REFUSED_ROADS = ([], [1], [0, 0], [0, 5, 3], list(range(51)))

# Each call that is answered, with what is handed in.
ANSWERED = [
    *itertools.product((trials, roads, first_road, gaps_shown), ((gaps,) for gaps in SOME_GAPS)),
    *itertools.product((distances, mirrored, spread, twins, road_shown), ((road,) for road in SOME_ROADS)),
    *itertools.product((part_of, fits, left_over, lacks), itertools.product(SOME_ROADS, SOME_GAPS)),
    *itertools.product((crossed,), SOME_CROSSINGS),
    *itertools.product((read_gaps,), (("gaps",), ("gaps 1 1 2",))),
    *itertools.product((read_road,), (("road 0",), ("road 0 1 3",))),
]

# Each call that is refused, with what is handed in.
REFUSED = [
    *itertools.product((trials, roads, first_road, gaps_shown), ((gaps,) for gaps in REFUSED_GAPS)),
    *itertools.product((twins, road_shown), ((road,) for road in REFUSED_ROADS)),
    *itertools.product((crossed,), itertools.product(REFUSED_ROADS, SOME_ROADS)),
    *itertools.product((crossed,), itertools.product(SOME_ROADS, REFUSED_ROADS)),
    (twins, (list(range(8)),)),
    (crossed, (list(range(50)), [0, 50])),
    (crossed, ([0, 1, 3], [0, 2, 5])),
]


def numbers_within(told):
    if isinstance(told, (list, tuple)):
        for part in told:
            yield from numbers_within(part)
    elif not isinstance(told, str) and told is not None:
        yield told


class HandedInAndToldTest(unittest.TestCase):
    def test_what_is_handed_in_stays_as_it_was(self):
        for ask, handed_in in ANSWERED:
            given = copy.deepcopy(handed_in)
            with self.subTest(ask=ask.__name__, handed_in=handed_in):
                ask(*given)
                self.assertEqual(given, handed_in)

    def test_what_is_refused_stays_as_it_was(self):
        for ask, handed_in in REFUSED:
            given = copy.deepcopy(handed_in)
            with self.subTest(ask=ask.__name__, handed_in=handed_in):
                self.assertIsNotNone(refusal_of(ask, *given))
                self.assertEqual(given, handed_in)

    def test_no_two_lists_of_it_are_one(self):
        for ask, handed_in in ANSWERED:
            given = copy.deepcopy(handed_in)
            first, second = ask(*given), ask(*given)
            with self.subTest(ask=ask.__name__, handed_in=handed_in):
                every = list(lists_within([first, second, list(given)]))
                self.assertEqual(len({id(one) for one in every}), len(every))

    def test_what_is_told_may_be_changed(self):
        for ask, handed_in in ANSWERED:
            given = copy.deepcopy(handed_in)
            told = ask(*given)
            kept = copy.deepcopy(told)
            for one in list(lists_within(told)):
                one.append(77)
                one[0] = 99
            with self.subTest(ask=ask.__name__, handed_in=handed_in):
                self.assertEqual(given, handed_in)
                self.assertEqual(ask(*given), kept)

    def test_what_was_handed_in_may_be_changed_later(self):
        for ask, handed_in in ANSWERED:
            given = copy.deepcopy(handed_in)
            told = ask(*given)
            kept = copy.deepcopy(told)
            for one in lists_within(given):
                one.append(77)
                one[0] = 99
            with self.subTest(ask=ask.__name__, handed_in=handed_in):
                self.assertEqual(told, kept)
                self.assertEqual(ask(*copy.deepcopy(handed_in)), kept)

    def test_all_numbers_are_whole(self):
        for ask, handed_in in ANSWERED:
            if ask not in (part_of, fits):
                with self.subTest(ask=ask.__name__, handed_in=handed_in):
                    self.assertLessEqual({type(number) for number in numbers_within(ask(*handed_in))}, {int})


class PartsTest(unittest.TestCase):
    def test_the_roads_told_fit_and_so_do_the_mirrored_ones(self):
        for gaps in itertools.chain(SOME_GAPS, (distances(road) for road in SOME_ROADS)):
            told = roads(gaps)
            with self.subTest(gaps=gaps):
                for road in told:
                    self.assertIs(fits(road, gaps), True)
                    self.assertEqual(distances(road), gaps)
                    self.assertIn(mirrored(road), told)
                self.assertEqual(told, sorted(told))
                self.assertEqual(len({tuple(road) for road in told}), len(told))
                self.assertEqual(first_road(gaps), told[0] if told else None)

    def test_a_road_is_among_the_roads_that_fit_its_distances(self):
        for road in itertools.chain(small_roads(6), SOME_ROADS):
            with self.subTest(road=road):
                self.assertIn(road, roads(distances(road)))

    def test_twins_are_the_others_that_fit(self):
        for road in itertools.chain(small_roads(6), SOME_ROADS):
            told = twins(road)
            with self.subTest(road=road):
                self.assertNotIn(road, told)
                self.assertNotIn(mirrored(road), told)
                together = {tuple(one) for one in [road, mirrored(road)] + told}
                self.assertEqual(sorted(together), [tuple(one) for one in roads(distances(road))])
                for twin in told:
                    self.assertIn(road, twins(twin))

    def test_the_trials_tell_what_the_places_lack(self):
        for gaps in SOME_GAPS[1:]:
            with self.subTest(gaps=gaps):
                self.check_lacks(trials(gaps), [0, gaps[-1]], gaps)

    def check_lacks(self, told, places, gaps):
        for place, lack, further in told:
            together = sorted(places + [place])
            self.assertEqual(lack, lacks(together, gaps))
            self.check_lacks(further, together, gaps)

    def test_crossed_roads_fit_the_same_distances(self):
        straight, turned = crossed([0, 1, 3], [0, 4])
        self.assertIn(straight, roads(distances(turned)))
        for one, other in SOME_CROSSINGS:
            straight, turned = crossed(one, other)
            with self.subTest(one=one, other=other):
                self.assertEqual(distances(straight), distances(turned))
                self.assertEqual(spread(straight), spread(turned))

    def test_what_is_told_can_be_written_and_read(self):
        for gaps in SOME_GAPS:
            with self.subTest(gaps=gaps):
                self.assertEqual(read_gaps(gaps_shown(gaps)), gaps)
                self.assertEqual([read_road(road_shown(road)) for road in roads(gaps)], roads(gaps))


if __name__ == "__main__":
    unittest.main()
