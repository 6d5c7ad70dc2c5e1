"""Points 2, 3, 4 and 120: texts of works there and back, and NoText with the part that is wrong."""

import unittest

from rinsework.errors import NoText, RinseError
from rinsework.texts import read_works, works_text
from rinsework.works import Works
from tests.made import GREAT, NAMES, made, told_of

TWO = [[0, 3], [4, 0], [1, 2]]
RINSES, START, CLOTH = "rinses 0 3 / 4 0 / 1 2", "start -1 0", "cloth ab 1 5 20 1"
TEXT = "rinses 0 3 / 4 0 / 1 2; start -1 0; cloth ab 1 5 20 1"
FIGURES = "123456789012345678901234567890"
# Words in the place of a number.
NO_NUMBERS = ["-0", "+5", "007", "00", "-", "--1", "-01", "1-", "", "a", "1.5", "1e3", "0x1", "1_0", "1,0", "/", ";",
              "\t1", "1\t", "1\n", "\n", FIGURES + "1", "-" + FIGURES + "1", "0" + FIGURES, "True", "None", "- 1"]


class WorksTextTest(unittest.TestCase):
    def test_told_by_hand(self):
        self.assertEqual(works_text(Works(TWO, [("ab", 1, 5, 20, 1)])), TEXT)
        self.assertEqual(works_text(Works(TWO, [], 1, 7)), "rinses 0 3 / 4 0 / 1 2; start 1 7")
        self.assertEqual(works_text(Works([[5], [0]], [])), "rinses 5 / 0; start -1 0")

    def test_cloths_are_sorted_by_names(self):
        works = Works([[0], [0]], [("b", 0, 1, -2, 3), ("ab", 0, 4, 5, 6), ("aa", 0, 7, 8, 9)], 0)
        self.assertEqual(works_text(works), "rinses 0 / 0; start 0 0; cloth aa 0 7 8 9; cloth ab 0 4 5 6; cloth b 0 1 -2 3")

    def test_the_given_rinses(self):
        # The least rinse from the fresh vat to 0 is 2, but 50 was handed in.
        self.assertEqual(works_text(Works([[0, 9], [1, 0], [50, 1]], [])), "rinses 0 9 / 1 0 / 50 1; start -1 0")

    def test_great_numbers(self):
        works = Works([[0], [GREAT]], [("a", 0, GREAT, -GREAT, GREAT)], 0, GREAT)
        text = "rinses 0 / " + "9" * 30 + "; start 0 " + "9" * 30 + "; cloth a 0 " + "9" * 30 + " -" + "9" * 30 + " " + "9" * 30
        self.assertEqual(works_text(works), text)
        later = works.begun(["a"])
        self.assertEqual(works_text(later), "rinses 0 / " + "9" * 30 + "; start 0 1" + "9" * 29 + "8")

    def test_a_text_is_told(self):
        self.assertIs(type(works_text(Works(TWO, []))), str)


class ThereAndBackTest(unittest.TestCase):
    def test_works_by_chance(self):
        for given in [made(1, many, hues, most) for many in (0, 1, 2, 5, 10) for hues in (1, 2, 3, 4)
                      for most in (3, 12, GREAT // 3)]:
            works = given.works()
            again = read_works(works_text(works))
            self.assertIs(type(again), Works)
            self.assertEqual(told_of(again), told_of(works))
            self.assertEqual(works_text(again), works_text(works))

    def test_cloths_in_any_order(self):
        works = read_works("rinses 0 / 0; start 0 5; cloth b 0 1 -2 3; cloth aa 0 7 8 9; cloth ab 0 4 5 6")
        self.assertEqual(works.names(), ["aa", "ab", "b"])
        self.assertEqual(works_text(works), "rinses 0 / 0; start 0 5; cloth aa 0 7 8 9; cloth ab 0 4 5 6; cloth b 0 1 -2 3")

    def test_read_by_hand(self):
        works = read_works(TEXT)
        self.assertEqual((works.rinses(), works.start(), works.names()), (TWO, (-1, 0), ["ab"]))
        self.assertEqual(works.cloth("ab"), ("ab", 1, 5, 20, 1))
        works = read_works("rinses 5 / 7; start 0 9")
        self.assertEqual((works.rinses(), works.start(), works.names()), ([[5], [7]], (0, 9), []))

    def test_thirty_figures(self):
        number = int(FIGURES)
        works = read_works(f"rinses {FIGURES} / 0; start 0 {FIGURES}; cloth a 0 {FIGURES} -{FIGURES} {FIGURES}")
        self.assertEqual((works.rinses(), works.start()), ([[number], [0]], (0, number)))
        self.assertEqual(works.cloth("a"), ("a", 0, number, -number, number))

    def test_numbers_that_are_so(self):
        for number in (0, 1, -1, 9, 10, -10, 100, GREAT, -GREAT):
            self.assertEqual(read_works(f"{RINSES}; {START}; cloth a 0 5 {number} 1").cloth("a")[3], number)


class NoTextTest(unittest.TestCase):
    def wrong(self, part, text):
        with self.assertRaises(RinseError) as caught:
            read_works(text)
        self.assertIs(type(caught.exception), NoText)
        self.assertEqual(caught.exception.part, part, text)

    def test_lacking_parts(self):
        self.wrong(0, "")
        self.wrong(0, " ")
        self.wrong(1, RINSES)
        self.wrong(1, RINSES + "; ")
        self.wrong(0, START)
        self.wrong(0, "; " + RINSES + "; " + START)
        self.wrong(1, RINSES + "; " + CLOTH)
        self.wrong(1, RINSES + "; " + CLOTH + "; " + START)
        self.wrong(0, START + "; " + RINSES)

    def test_a_part_without_signs_at_the_end(self):
        self.wrong(2, RINSES + "; " + START + "; ")
        self.wrong(3, TEXT + "; ")
        self.wrong(3, TEXT + "; ; cloth b 0 1 1 1")

    def test_what_stands_between_the_parts(self):
        self.wrong(0, RINSES + ";" + START)
        self.wrong(0, RINSES + " ; " + START)
        self.wrong(1, RINSES + ";  " + START)
        self.wrong(0, RINSES + ", " + START)
        self.wrong(0, RINSES + ";\n" + START)
        self.wrong(1, RINSES + "; " + START + ";")
        self.wrong(1, RINSES + "; " + START + ";" + CLOTH)
        self.wrong(2, TEXT + ";")
        self.wrong(1, RINSES + "; ; " + START)

    def test_blanks(self):
        for part, text in enumerate(TEXT.split("; ")):
            for wrong in [" " + text, text + " ", text.replace(" ", "  ", 1), text.replace(" ", "\t", 1),
                          text.replace(" ", "\n", 1), text + "\n", text + "\t", "\n" + text, text.upper(), text[1:],
                          text.replace(" ", "", 1), ""]:
                parts = TEXT.split("; ")
                parts[part] = wrong
                self.wrong(part, "; ".join(parts))
            for place, sign in enumerate(text):
                if sign == " ":
                    parts = TEXT.split("; ")
                    for blanks in ("  ", "\t", "\n", " \t", "   "):
                        parts[part] = text[:place] + blanks + text[place + 1:]
                        self.wrong(part, "; ".join(parts))

    def test_rinses(self):
        for rinses in ["rinses", "rinses ", "rinses 0", "rinses /", "rinses 0 /", "rinses / 0", "rinses 0 / 0 / 0",
                       "rinses 0 / 0 /", "rinses / 0 / 0", "rinses 0 / / 0", "rinses 0/0", "rinses 0 /0", "rinses 0/ 0",
                       "rinses 0 3 / 4 / 1 2", "rinses 0 3 / 4 0 5 / 1 2", "rinses 0 3 / 4 0", "rinses 0 -1 / 4 0 / 1 2",
                       "rinses 0 3 / 4 0 / 1 2 / 1 2", "rinse 0 / 0", "Rinses 0 / 0", "cloth 0 / 0", "rinses 0 // 0",
                       "rinses 0 | 0", "0 / 0", "rinses rinses 0 / 0"]:
            self.wrong(0, rinses + "; " + START + "; " + CLOTH)
            self.wrong(0, rinses)
        five = " / ".join(["0 0 0 0 0"] * 6)
        self.wrong(0, "rinses " + five + "; start 0 0")
        four = " / ".join(["0 0 0 0"] * 5)
        self.assertEqual(read_works("rinses " + four + "; start 3 0").hues(), 4)

    def test_starts(self):
        for start in ["start", "start 0", "start 0 0 0", "start -2 0", "start 2 0", "start 0 -1", "start a 0", "start 0 a",
                      "start fresh 0", "begin 0 0", "0 0", "start start 0 0", "start 0 / 0", "start  0 0", "start 0 0 ",
                      "start None 0", "rinses 0 0"]:
            self.wrong(1, RINSES + "; " + start + "; " + CLOTH)
            self.wrong(1, RINSES + "; " + start + "; wrong")
        for hue in (-1, 0, 1):
            self.assertEqual(read_works(f"{RINSES}; start {hue} 0").start(), (hue, 0))

    def test_cloths(self):
        for cloth in ["cloth", "cloth b", "cloth b 0 1 1", "cloth b 0 1 1 1 1", "cloth b 2 1 1 1", "cloth b -1 1 1 1",
                      "cloth b 0 0 1 1", "cloth b 0 -1 1 1", "cloth b 0 1 1 0", "cloth b 0 1 1 -1", "cloth B 0 1 1 1",
                      "cloth bbbbbbbbb 0 1 1 1", "cloth 5 0 1 1 1", "cloth  0 1 1 1", "cloths b 0 1 1 1", "b 0 1 1 1",
                      "cloth ab 0 1 1 1", "cloth a-b 0 1 1 1", "cloth b 0 1 1 1 ", "start 0 0", "rinses 0 / 0",
                      "cloth b b 0 1 1 1", "cloth 0 b 1 1 1", "cloth 1 1 1 1"]:
            self.wrong(3, TEXT + "; " + cloth)
            self.wrong(3, TEXT + "; " + cloth + "; cloth c 0 1 1 1")
            self.wrong(3, TEXT + "; " + cloth + "; wrong")

    def test_a_name_that_stood_ahead(self):
        self.wrong(4, TEXT + "; cloth b 0 1 1 1; cloth ab 0 1 1 1")
        self.wrong(4, TEXT + "; cloth b 0 1 1 1; cloth b 0 1 1 1; cloth 5")

    def test_an_eleventh_cloth(self):
        cloths = [f"cloth {name} 0 1 1 1" for name in NAMES]
        self.assertEqual(len(cloths), 11)
        self.assertEqual(len(read_works("; ".join([RINSES, START] + cloths[:10])).names()), 10)
        self.wrong(12, "; ".join([RINSES, START] + cloths))
        self.wrong(12, "; ".join([RINSES, START] + cloths[:10] + ["wrong"]))
        self.wrong(4, "; ".join([RINSES, START] + cloths[:2] + cloths[:1] + cloths[2:]))

    def test_words_that_are_no_numbers(self):
        for word in NO_NUMBERS:
            for rinses in [f"rinses {word} 3 / 4 0 / 1 2", f"rinses 0 3 / 4 0 / 1 {word}", f"rinses 0 3 / 4 {word} / 1 2"]:
                self.wrong(0, f"{rinses}; {START}; {CLOTH}")
            for start in [f"start {word} 0", f"start 0 {word}"]:
                self.wrong(1, f"{RINSES}; {start}; {CLOTH}")
            for cloth in [f"cloth b {word} 1 1 1", f"cloth b 0 {word} 1 1", f"cloth b 0 1 {word} 1", f"cloth b 0 1 1 {word}"]:
                self.wrong(3, f"{TEXT}; {cloth}; cloth c 0 1 1 1")

    def test_works_with_greater_numbers_have_a_text_that_is_not_read(self):
        works = Works([[0], [0]], [("a", 0, 1, 1, 1)], 0, GREAT + 1)
        self.wrong(1, works_text(works))
        works = Works([[0], [0]], [("a", 0, 1, 1, 1), ("b", 0, 1, -GREAT - 1, 1)], 0)
        self.wrong(3, works_text(works))
        self.wrong(0, works_text(Works([[0], [GREAT + 1]], [])))

    def test_the_first_wrong_part(self):
        self.wrong(0, "rinses 0; start 9 9; cloth")
        self.wrong(1, "rinses 0 / 0; start 9 9; cloth")
        self.wrong(2, "rinses 0 / 0; start 0 9; cloth")
        self.wrong(0, "rinses -0 / 0; start")

    def test_any_other_texts(self):
        for text in ["x", ";", "; ", "\n", "\t", "~", "rinses 0 / 0\nstart -1 0", "{}", "[[0], [0]]", "vat " + TEXT, "0"]:
            self.wrong(0, text)


class OwnTest(unittest.TestCase):
    def test_asked_again_the_same(self):
        works = Works(TWO, [("ab", 1, 5, 20, 1)])
        ahead = told_of(works)
        self.assertEqual(works_text(works), works_text(works))
        self.assertEqual(told_of(works), ahead)
        one, other = read_works(TEXT), read_works(TEXT)
        one.rinses().clear()
        self.assertEqual(told_of(one), told_of(other))


if __name__ == "__main__":
    unittest.main()
