"""Points 2 and 5: what a whole number is, what a name is."""

import unittest

from rinsework.words import is_name, is_whole

NO_TEXTS = [None, True, False, 0, 1, -1, 10 ** 40, [], ["a"], ["a", "b"], (), ("a",), {}, {"a": 1}, set(), b"ab",
            object(), str, 1.5]
NO_NUMBERS = [None, True, False, "", "0", "1", "-1", "a", [], [1], (), (1,), {}, {1: 1}, set(), b"1", object(), int,
              1.0, 0.0]


class NamesTest(unittest.TestCase):
    def test_names(self):
        for text in ["a", "z", "m", "ab", "zz", "aaa", "cloth", "abcdefg", "abcdefgh", "zzzzzzzz"]:
            self.assertIs(is_name(text), True, text)

    def test_each_small_letter(self):
        for letter in "abcdefghijklmnopqrstuvwxyz":
            self.assertIs(is_name(letter), True, letter)
            self.assertIs(is_name("a" + letter + "z"), True, letter)

    def test_lengths(self):
        for length in range(20):
            self.assertIs(is_name("q" * length), 1 <= length <= 8, length)
        self.assertIs(is_name("a" * 100000), False)

    def test_every_other_sign(self):
        signs = [chr(code) for code in range(32, 127)] + ["\n", "\t"]
        for sign in signs:
            if "a" <= sign <= "z":
                continue
            for text in [sign, sign + "b", "b" + sign, "b" + sign + "c", "bcdefgh" + sign, sign + "bcdefgh"]:
                self.assertIs(is_name(text), False, repr(text))

    def test_great_letters_blanks_feeds_tabs(self):
        for text in ["", " ", "A", "Ab", "aB", "ABCDEFGH", " ab", "ab ", "a b", "ab\n", "\nab", "a\nb", "ab\t", "\t",
                     "\n", "a\n", "abcdefgh\n", "abcdefg\n", "a1", "1a", "a_b", "a-b"]:
            self.assertIs(is_name(text), False, repr(text))

    def test_letters_beyond_z(self):
        for text in ["\u00e4", "a\u00e4", "\u00df", "\u0430", "\u00aa"]:
            self.assertIs(is_name(text), False, repr(text))

    def test_what_is_no_text(self):
        for thing in NO_TEXTS:
            self.assertIs(is_name(thing), False, repr(thing))


class WholeNumbersTest(unittest.TestCase):
    def test_whole_numbers(self):
        for number in [0, 1, 2, 9, 10, 255, 2 ** 31, 2 ** 63, 2 ** 64, 10 ** 29, 10 ** 30 - 1, 10 ** 30, 10 ** 63]:
            self.assertIs(is_whole(number), True, number)
            self.assertIs(is_whole(-number), True, -number)

    def test_truths_are_none(self):
        self.assertIs(is_whole(True), False)
        self.assertIs(is_whole(False), False)
        self.assertIs(is_whole(1 == 1), False)

    def test_what_is_no_number(self):
        for thing in NO_NUMBERS:
            self.assertIs(is_whole(thing), False, repr(thing))


class AskedAgainTest(unittest.TestCase):
    def test_what_is_handed_in_stays(self):
        things = [["a"], {"a": 1}, [[1], [2]]]
        for ask in [is_name, is_whole]:
            for thing in things:
                self.assertIs(ask(thing), False)
        self.assertEqual(things, [["a"], {"a": 1}, [[1], [2]]])

    def test_the_same_again(self):
        for thing in ["a", "A", "", 1, -1, True, None]:
            self.assertIs(is_name(thing), is_name(thing))
            self.assertIs(is_whole(thing), is_whole(thing))


if __name__ == "__main__":
    unittest.main()
