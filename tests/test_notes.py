"""Promise 14, over roadgaps/notes.py."""

import itertools
import unittest

from cases import GAPS, NO_GAPS, NO_ROADS, ROADS, TOO_MANY, refusal_of
from roadgaps.errors import BadText, NoGaps, NoRoad, TooMany
from roadgaps.notes import gaps_shown, read_gaps, read_road, road_shown

# Each holds "road" or "gaps" in the place of WORD, and 0 or 1 in the place of START.
BAD_FORMS = {
    "two blanks behind the word": "WORD  START 3",
    "two blanks between numbers": "WORD START  3",
    "a blank ahead": " WORD START 3",
    "a blank at the end": "WORD START 3 ",
    "a blank behind the word alone": "WORD ",
    "a tab for a blank": "WORD\tSTART 3",
    "a tab between numbers": "WORD START\t3",
    "a tab beside a blank": "WORD START \t3",
    "a tab at the end": "WORD START 3\t",
    "a tab ahead": "\tWORD START 3",
    "a line end at the end": "WORD START 3\n",
    "a line end for a blank": "WORD START\n3",
    "a line end behind a blank": "WORD START \n3",
    "a line end ahead": "\nWORD START 3",
    "a line end behind the word": "WORD\n",
    "a carriage return at the end": "WORD START 3\r",
    "two lines": "WORD START 3\nWORD START 3",
    "a leading nought": "WORD START 03",
    "many leading noughts": "WORD START 0000003",
    "a leading nought at the first number": "WORD 0START 3",
    "a plus": "WORD START +3",
    "a plus at the first number": "WORD +START 3",
    "a minus": "WORD START -3",
    "a minus at the first number": "WORD -START 3",
    "a plus apart": "WORD START + 3",
    "an underscore within a number": "WORD START 3_0",
    "an underscore at either end of a number": "WORD START _3 4_",
    "a point": "WORD START 3.0",
    "a comma": "WORD START, 3",
    "an exponent": "WORD START 3e1",
    "another base": "WORD START 0x3",
    "letters": "WORD START three",
    "a list": "WORD [START, 3]",
    "no blank behind the word": "WORDSTART 3",
    "no word": "START 3",
    "no word but a blank": " START 3",
    "the word twice": "WORD WORD START 3",
    "the word at the end": "START 3 WORD",
    "another word": "way START 3",
    "a longer word": "WORDs START 3",
    "a quoted text": "'WORD START 3'",
    "empty": "",
    "a blank": " ",
    "a line end": "\n",
    "many blanks": " " * 400,
    "a number of many digits": "WORD START " + "9" * 380,
    "noughts alone": "WORD START " + "0" * 380,
    "400 signs": "WORD START" + " 3" * 197,
}


def in_form(form, word, start):
    return form.replace("WORD", word).replace("START", start)


def written(word, numbers):
    return word + "".join(" " + str(number) for number in numbers)


class ShownTest(unittest.TestCase):
    def test_a_road(self):
        self.assertEqual(road_shown([0]), "road 0")
        self.assertEqual(road_shown([0, 1, 4, 6]), "road 0 1 4 6")
        self.assertEqual(road_shown([0, 10, 4000]), "road 0 10 4000")

    def test_distances(self):
        self.assertEqual(gaps_shown([]), "gaps")
        self.assertEqual(gaps_shown([7]), "gaps 7")
        self.assertEqual(gaps_shown([1, 1, 2, 4000]), "gaps 1 1 2 4000")

    def test_no_road(self):
        for name, places in NO_ROADS.items():
            with self.subTest(places=name):
                self.assertIs(refusal_of(road_shown, places), NoRoad)

    def test_too_many_comes_ahead_of_no_gaps(self):
        for name, gaps in TOO_MANY.items():
            with self.subTest(gaps=name):
                self.assertIs(refusal_of(gaps_shown, gaps), TooMany)

    def test_no_gaps(self):
        for name, gaps in NO_GAPS.items():
            with self.subTest(gaps=name):
                self.assertIs(refusal_of(gaps_shown, gaps), NoGaps)


class ReadTest(unittest.TestCase):
    def test_a_road(self):
        self.assertEqual(read_road("road 0"), [0])
        self.assertEqual(read_road("road 0 1 4 6"), [0, 1, 4, 6])
        self.assertEqual(read_road("road 0 10 4000"), [0, 10, 4000])

    def test_distances(self):
        self.assertEqual(read_gaps("gaps"), [])
        self.assertEqual(read_gaps("gaps 7"), [7])
        self.assertEqual(read_gaps("gaps 1 1 2 4000"), [1, 1, 2, 4000])

    def test_what_is_written_is_read_to_the_same(self):
        for name, road in ROADS.items():
            with self.subTest(road=name):
                self.assertEqual(road_shown(road), written("road", road))
                self.assertEqual(read_road(road_shown(road)), road)
        for name, gaps in GAPS.items():
            with self.subTest(gaps=name):
                self.assertEqual(gaps_shown(gaps), written("gaps", gaps))
                self.assertEqual(read_gaps(gaps_shown(gaps)), gaps)

    def test_the_word_alone_writes_no_road(self):
        self.assertIs(refusal_of(read_road, "road"), BadText)

    def test_the_other_word(self):
        for text in ("gaps", "gaps 0", "gaps 0 1 3", "gaps 1 3"):
            with self.subTest(text=text):
                self.assertIs(refusal_of(read_road, text), BadText)
        for text in ("road", "road 0", "road 0 1 3", "road 1 3"):
            with self.subTest(text=text):
                self.assertIs(refusal_of(read_gaps, text), BadText)

    def test_the_forms_are_bad_by_one_thing_alone(self):
        self.assertEqual(read_road(in_form("WORD START 3", "road", "0")), [0, 3])
        self.assertEqual(read_gaps(in_form("WORD START 3", "gaps", "1")), [1, 3])

    def test_any_other_text(self):
        for name, form in BAD_FORMS.items():
            with self.subTest(form=name):
                self.assertIs(refusal_of(read_road, in_form(form, "road", "0")), BadText)
                self.assertIs(refusal_of(read_gaps, in_form(form, "gaps", "1")), BadText)

    def test_half_the_word_and_upper_case(self):
        for word in ("roa", "oad", "Road", "ROAD"):
            with self.subTest(word=word):
                self.assertIs(refusal_of(read_road, word + " 0 3"), BadText)
        for word in ("gap", "aps", "Gaps", "GAPS"):
            with self.subTest(word=word):
                self.assertIs(refusal_of(read_gaps, word), BadText)
                self.assertIs(refusal_of(read_gaps, word + " 1 3"), BadText)

    def test_nought_is_written_in_one_way(self):
        for text in ("road 00", "road -0", "road +0", "road 0_0", "road 0 00", "road 000 1"):
            with self.subTest(text=text):
                self.assertIs(refusal_of(read_road, text), BadText)

    def test_a_text_that_writes_no_road(self):
        for name, places in NO_ROADS.items():
            with self.subTest(places=name):
                self.assertIs(refusal_of(read_road, written("road", places)), BadText)

    def test_a_text_that_writes_no_distances(self):
        for name, gaps in itertools.chain(NO_GAPS.items(), TOO_MANY.items()):
            with self.subTest(gaps=name):
                self.assertIs(refusal_of(read_gaps, written("gaps", gaps)), BadText)

    def test_every_short_text(self):
        good_roads = ["road 0", "road 0 1"]
        good_gaps = ["gaps", "gaps 1", "gaps 1 1"] + [f"gaps {n}" for n in (10, 11, 100, 101, 110, 111)]
        for size in range(5):
            for signs in itertools.product(" 01_+-\n\t", repeat=size):
                tail = "".join(signs)
                self.check_read(read_road, "road" + tail, good_roads)
                self.check_read(read_gaps, "gaps" + tail, good_gaps)

    def check_read(self, ask, text, good):
        self.assertIs(refusal_of(ask, text), None if text in good else BadText, repr(text))


if __name__ == "__main__":
    unittest.main()
