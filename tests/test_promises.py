"""Points 2, 4, 6, 60 and 61: the soonest due and the room, with a plan and a table, and how they refuse."""

import unittest

from rinsework.errors import NoCloth, RinseError, TooMany, Twice
from rinsework.promises import room_for, soonest_due
from rinsework.stair import least_late
from rinsework.tables import bars
from rinsework.works import Works
from tests.made import GREAT, NAMES, Given, check_own_lists, made, small_ones, told_of

TWO = [[0, 3], [4, 0], [1, 2]]
BY_HAND = Given(TWO, [("a", 0, 5, 10, 1), ("b", 1, 6, 20, 1), ("c", 1, 7, 15, 1)])
LENGTHS = (1, 4, GREAT)
DUES = (-7, 0, 25, GREAT)


def bounds_of(given):
    """Bounds at which the works themselves are shut, just kept, and kept with room."""
    least = given.least_late() if given.names else 0
    return [least - 1, least, least + 1, least + 7, least + 40, GREAT]


class SoonestDueTest(unittest.TestCase):
    def test_told_by_hand(self):
        works = BY_HAND.works()
        # A bound of 2 is kept by a, c, b alone, which end at 6, 16 and 22; there is no room ahead of them.
        word, due, plan, table = soonest_due(works, 2, "d", 1, 4)
        self.assertEqual((word, due, plan), ("due", 24, ["a", "c", "b", "d"]))
        word, due, plan, table = soonest_due(works, 2, "d", 0, 4)
        self.assertEqual((word, due, plan), ("due", 28, ["a", "c", "b", "d"]))
        word, due, plan, table = soonest_due(works, 6, "d", 0, 4)
        self.assertEqual((word, due), ("due", -1))
        self.assertEqual(soonest_due(works, 1, "d", 1, 4)[0], "never")
        self.assertEqual(soonest_due(works, 1, "d", 1, 1)[0], "never")

    def test_to_works_without_cloths(self):
        for last, begin in [(None, 9 + 2), (0, 9 + 3), (1, 9)]:
            works = Works(TWO, [], last, 9)
            for bound in (0, 5, -5, GREAT):
                word, due, plan, table = soonest_due(works, bound, "a", 1, 6)
                self.assertEqual((word, due, plan), ("due", begin + 6 - bound, ["a"]))
                self.assertIs(bars(works.put(("a", 1, 6, due - 1, 1)), bound, table), True)

    def held(self, given, bound, hue, length):
        works = given.works()
        told = soonest_due(works, bound, "q", hue, length)
        self.assertIs(type(told), tuple)
        if not given.keeps_some(bound):
            self.assertEqual((len(told), told[0]), (2, "never"))
            self.assertTrue(bars(works, bound, told[1]) and given.bars(bound, told[1]))
            return
        word, due, plan, table = told
        more, less = [given.put(("q", hue, length, each, 1)) for each in (due, due - 1)]
        self.assertEqual((word, type(due), type(plan), sorted(plan)), ("due", int, list, more.names))
        self.assertTrue(more.keeps(plan, bound))
        self.assertFalse(less.keeps_some(bound))
        self.assertTrue(bars(less.works(), bound, table) and less.bars(bound, table))

    def test_held_against_all_orders(self):
        for given in small_ones(2, 4):
            for number, bound in enumerate(bounds_of(given)):
                self.held(given, bound, number % given.hues, LENGTHS[number % 3])

    def test_the_least_end_of_all_orders(self):
        for given in [made(seed, 3, hues, 9) for seed in range(6) for hues in (1, 2, 3)]:
            for bound in bounds_of(given)[1:4]:
                for hue in range(given.hues):
                    more = given.put(("q", hue, 3, GREAT, 1))
                    ends = [end for order in more.orders() if more.keeps(order, bound)
                            for name, begin, end in more.done(order) if name == "q"]
                    self.assertEqual(soonest_due(given.works(), bound, "q", hue, 3)[1], min(ends) - bound)


class RoomTest(unittest.TestCase):
    def test_told_by_hand(self):
        works = BY_HAND.works()
        # Behind a, c, b, which end at 22, with the bound 2.
        word, length, plan, table = room_for(works, 2, "d", 1, 30)
        self.assertEqual((word, length, plan), ("length", 10, ["a", "c", "b", "d"]))
        word, length, plan, table = room_for(works, 2, "d", 0, 30)
        self.assertEqual((word, length, plan), ("length", 6, ["a", "c", "b", "d"]))
        self.assertEqual(room_for(works, 2, "d", 1, 21)[:3], ("length", 1, ["a", "c", "b", "d"]))
        self.assertEqual(room_for(works, 2, "d", 1, 20)[0], "none")
        self.assertEqual(room_for(works, 1, "d", 1, 1000)[0], "none")

    def test_to_works_without_cloths(self):
        for last, begin in [(None, 9 + 2), (0, 9 + 3), (1, 9)]:
            works = Works(TWO, [], last, 9)
            for bound in (0, 5, -5, GREAT):
                word, length, plan, table = room_for(works, bound, "a", 1, 30)
                self.assertEqual((word, length, plan), ("length", 30 + bound - begin, ["a"]))
                self.assertIs(bars(works.put(("a", 1, length + 1, 30, 1)), bound, table), True)
            word, table = room_for(works, 0, "a", 1, begin)
            self.assertEqual(word, "none")
            self.assertIs(bars(works.put(("a", 1, 1, begin, 1)), 0, table), True)
            self.assertEqual(room_for(works, 0, "a", 1, begin + 1)[:2], ("length", 1))

    def held(self, given, bound, hue, due):
        works = given.works()
        told = room_for(works, bound, "q", hue, due)
        self.assertIs(type(told), tuple)
        one = given.put(("q", hue, 1, due, 1))
        if not one.keeps_some(bound):
            self.assertEqual((len(told), told[0]), (2, "none"))
            self.assertTrue(bars(one.works(), bound, told[1]) and one.bars(bound, told[1]))
            return
        word, length, plan, table = told
        self.assertEqual((word, type(length), type(plan), sorted(plan)), ("length", int, list, one.names))
        self.assertGreaterEqual(length, 1)
        self.assertTrue(given.put(("q", hue, length, due, 1)).keeps(plan, bound))
        longer = given.put(("q", hue, length + 1, due, 1))
        self.assertFalse(longer.keeps_some(bound))
        self.assertTrue(bars(longer.works(), bound, table) and longer.bars(bound, table))

    def test_held_against_all_orders(self):
        for given in small_ones(2, 4):
            for number, bound in enumerate(bounds_of(given)):
                self.held(given, bound, number % given.hues, DUES[number % 4])
                self.held(given, bound, (number + 1) % given.hues, DUES[(number + 2) % 4])

    def test_the_due_that_was_told_has_just_that_room(self):
        for given in [made(seed, 4, hues, most) for seed in range(3) for hues in (1, 2, 3) for most in (9, GREAT)]:
            works = given.works()
            for bound in bounds_of(given)[1:4]:
                due = soonest_due(works, bound, "q", 0, 5)[1]
                self.assertGreaterEqual(room_for(works, bound, "q", 0, due)[1], 5)
                less = room_for(works, bound, "q", 0, due - 1)
                self.assertTrue(less[0] == "none" or less[1] < 5)


class RefusalsTest(unittest.TestCase):
    def refused(self, refusal, works, name, hue, length, due):
        """Both refuse, where they are asked for what is wrong; the bound 1 is kept by no plan of BY_HAND."""
        found = []
        for bound in (1, 100, -100):
            asks = [] if length is None else [lambda: soonest_due(works, bound, name, hue, length)]
            asks += [] if due is None else [lambda: room_for(works, bound, name, hue, due)]
            for ask in asks:
                with self.assertRaises(RinseError) as caught:
                    ask()
                self.assertIs(type(caught.exception), refusal)
                found.append(caught.exception)
        return found

    def test_names_that_are_none(self):
        for name in ["", "A", "a1", " a", "a ", "abcdefghi", "a\n"]:
            self.refused(NoCloth, BY_HAND.works(), name, 0, 5, 5)
            self.refused(NoCloth, Works(TWO, []), name, 0, 5, 5)

    def test_hues_that_the_vat_does_not_have(self):
        for hue in [-1, 2, 3, -2, GREAT]:
            self.refused(NoCloth, BY_HAND.works(), "d", hue, 5, 5)
            self.refused(NoCloth, Works(TWO, []), "a", hue, 5, 5)

    def test_lengths(self):
        for length in [0, -1, -GREAT]:
            self.refused(NoCloth, BY_HAND.works(), "d", 0, length, None)

    def test_a_name_of_the_works(self):
        for name in "abc":
            for error in self.refused(Twice, BY_HAND.works(), name, 0, 5, 5):
                self.assertEqual(error.name, name)
            self.refused(NoCloth, BY_HAND.works(), name, 2, 5, 5)
            self.refused(NoCloth, BY_HAND.works(), name, 0, 0, None)

    def test_works_of_ten_cloths(self):
        works = Works(TWO, [(name, 0, 1, 0, 1) for name in NAMES[:10]])
        for name, hue, length in [("q", 0, 5), (NAMES[0], 0, 5), ("", 0, 5), ("q", 9, 5)]:
            self.refused(TooMany, works, name, hue, length, 5)
        self.refused(TooMany, works, "q", 0, 0, None)

    def test_nine_cloths_have_a_place_left(self):
        for hues in (2, 4):
            for most in (9, GREAT):
                given = made(4, 9, hues, most)
                works = given.works()
                bound = least_late(works)[0] + 3
                word, due, plan, table = soonest_due(works, bound, "q", 1, 2)
                self.assertTrue(given.put(("q", 1, 2, due, 1)).keeps(plan, bound))
                self.assertTrue(bars(works.put(("q", 1, 2, due - 1, 1)), bound, table))
                word, length, plan, table = room_for(works, bound, "q", 1, due)
                self.assertTrue(given.put(("q", 1, length, due, 1)).keeps(plan, bound))
                self.assertTrue(bars(works.put(("q", 1, length + 1, due, 1)), bound, table))

    def test_what_is_refused_changes_nothing(self):
        works = BY_HAND.works()
        ahead = told_of(works)
        self.refused(Twice, works, "a", 0, 5, 5)
        self.assertEqual(told_of(works), ahead)


class OwnListsTest(unittest.TestCase):
    def test_told_lists_are_the_asker_s_own(self):
        for given in small_ones(1, 3):
            works = given.works()
            ahead = told_of(works)
            for bound in bounds_of(given)[:3]:
                check_own_lists(self, lambda: soonest_due(works, bound, "q", 0, 3))
                check_own_lists(self, lambda: room_for(works, bound, "q", 0, 20))
            self.assertEqual(told_of(works), ahead)


if __name__ == "__main__":
    unittest.main()
