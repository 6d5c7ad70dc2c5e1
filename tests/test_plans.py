"""Points 2, 12, 21 and 22: how a list of names is done, its lateness, its bounds, its cost, its runs."""

import unittest

from rinsework.errors import NoPlan, RinseError
from rinsework.plans import cost_of, done_rows, end_of, is_plan, keeps, late_ones, lateness, runs_of
from rinsework.works import Works
from tests.made import GREAT, NO_NAMES, check_own_lists, made, small_ones, told_of

TWO = [[0, 3], [4, 0], [1, 2]]
A, B, C, D = ("a", 0, 5, 10, 1), ("b", 1, 6, 20, 2), ("c", 1, 7, 15, 3), ("d", 0, 2, 40, 10)
WORKS = Works(TWO, [A, B, C, D])


def all_asks(works, names):
    return [lambda: done_rows(works, names), lambda: end_of(works, names), lambda: cost_of(works, names),
            lambda: lateness(works, names), lambda: keeps(works, names, 5), lambda: keeps(works, names, None),
            lambda: late_ones(works, names), lambda: runs_of(works, names)]


class DoneTest(unittest.TestCase):
    def test_told_by_hand(self):
        rows = done_rows(WORKS, ["b", "c", "a", "d"])
        self.assertEqual(rows, [("b", 2, 8), ("c", 8, 15), ("a", 19, 24), ("d", 24, 26)])
        self.assertEqual(end_of(WORKS, ["b", "c", "a", "d"]), 26)

    def test_the_empty_list(self):
        for works in [WORKS, Works(TWO, []), Works(TWO, [A], 1, 9)]:
            self.assertEqual(done_rows(works, []), [])
            self.assertEqual(end_of(works, []), works.start()[1])
            self.assertEqual(cost_of(works, []), 0)
            self.assertIsNone(lateness(works, []))
            self.assertEqual(late_ones(works, []), [])
            self.assertEqual(runs_of(works, []), [])
            for bound in [None, 0, -GREAT, GREAT]:
                self.assertIs(keeps(works, [], bound), True)

    def test_a_hue_that_comes_again(self):
        rows = done_rows(WORKS, ["a", "b", "d", "c"])
        self.assertEqual(rows, [("a", 1, 6), ("b", 9, 15), ("d", 19, 21), ("c", 24, 31)])

    def test_a_start_in_a_hue_and_a_fresh_vat(self):
        # Between trays of one hue there are rinses here; one behind the other, cloths of one hue need none.
        rinses = [[9, 3], [4, 9], [1, 2]]
        self.assertEqual(done_rows(Works(rinses, [A, D], 0, 50), ["a", "d"]), [("a", 50, 55), ("d", 55, 57)])
        self.assertEqual(done_rows(Works(rinses, [A, D], 1, 50), ["a", "d"]), [("a", 54, 59), ("d", 59, 61)])
        self.assertEqual(done_rows(Works(rinses, [A, D], -1, 50), ["a", "d"]), [("a", 51, 56), ("d", 56, 58)])
        self.assertEqual(done_rows(Works(rinses, [A, D]), ["d", "a"]), [("d", 1, 3), ("a", 3, 8)])

    def test_the_least_rinses_are_reckoned_with(self):
        rinses = [[0, 90, 2], [70, 0, 80], [1, 3, 0], [10, 20, 1]]
        works = Works(rinses, [("a", 0, 1, 0, 1), ("b", 1, 1, 0, 1)])
        self.assertEqual(done_rows(works, ["a", "b"]), [("a", 2, 3), ("b", 8, 9)])

    def test_a_list_in_two_parts(self):
        for given in small_ones(1, 4):
            works = given.works()
            for names in given.lists():
                for cut in range(len(names) + 1):
                    begun = works.begun(names[:cut])
                    rows = done_rows(works, names[:cut]) + done_rows(begun, names[cut:])
                    self.assertEqual(rows, done_rows(works, names))
                    self.assertEqual(end_of(begun, names[cut:]), end_of(works, names))
                    self.assertEqual(cost_of(works, names[:cut]) + cost_of(begun, names[cut:]), cost_of(works, names))

    def test_held_against_the_same_by_hand(self):
        for given in small_ones(2, 4) + [made(1, 5, 3), made(2, 5, 4, GREAT)]:
            works = given.works()
            for names in given.lists():
                self.assertEqual(done_rows(works, names), given.done(names))
                self.assertEqual(end_of(works, names), given.end(names))
                self.assertEqual(cost_of(works, names), given.cost(names))
                self.assertEqual(lateness(works, names), given.late(names))


class LatenessTest(unittest.TestCase):
    def test_told_by_hand(self):
        self.assertEqual(lateness(WORKS, ["b", "c", "a", "d"]), 14)
        self.assertEqual(lateness(WORKS, ["b"]), -12)
        self.assertEqual(lateness(WORKS, ["d", "b"]), -8)
        self.assertEqual(cost_of(WORKS, ["b", "c", "a", "d"]), 2 * 8 + 3 * 15 + 24 + 10 * 26)

    def test_late_ones(self):
        self.assertEqual(late_ones(WORKS, ["b", "c", "a", "d"]), ["a"])
        self.assertEqual(late_ones(WORKS, ["d", "c", "b", "a"]), ["a"])
        self.assertEqual(late_ones(WORKS, ["a", "d", "b", "c"]), ["c"])
        works = Works([[0], [0]], [(name, 0, 5, due, 1) for name, due in [("a", 5), ("b", 9), ("c", 15), ("d", 19)]])
        self.assertEqual(late_ones(works, ["a", "b", "c", "d"]), ["b", "d"])
        self.assertEqual(late_ones(works, ["d", "c", "b", "a"]), ["b", "a"])

    def test_just_at_its_due_is_not_late(self):
        for due, late in [(7, []), (6, []), (5, ["a"]), (-5, ["a"])]:
            works = Works([[0], [1]], [("a", 0, 5, due, 1)])
            self.assertEqual(late_ones(works, ["a"]), late)
            self.assertEqual(lateness(works, ["a"]), 6 - due)

    def test_bounds_at_the_greatest_lateness(self):
        for given in small_ones(2, 4):
            works = given.works()
            for names in given.lists():
                late = given.late(names)
                self.assertIs(keeps(works, names, None), True)
                if names:
                    self.assertIs(keeps(works, names, late), True)
                    self.assertIs(keeps(works, names, late + 1), True)
                    self.assertIs(keeps(works, names, late - 1), False)
                latest = [name for name, each in zip(names, given.latenesses(names)) if each > 0]
                self.assertEqual(late_ones(works, names), latest)


class RunsTest(unittest.TestCase):
    def test_told_by_hand(self):
        self.assertEqual(runs_of(WORKS, ["a"]), [["a"]])
        self.assertEqual(runs_of(WORKS, ["a", "d"]), [["a", "d"]])
        self.assertEqual(runs_of(WORKS, ["b", "c", "a", "d"]), [["b", "c"], ["a", "d"]])
        self.assertEqual(runs_of(WORKS, ["b", "a", "c", "d"]), [["b"], ["a"], ["c"], ["d"]])
        self.assertEqual(runs_of(WORKS, ["a", "c", "b", "d"]), [["a"], ["c", "b"], ["d"]])
        self.assertEqual(runs_of(Works(TWO, [A, D], 0), ["a", "d"]), [["a", "d"]])

    def test_they_make_up_the_list_and_are_the_longest(self):
        for given in small_ones(1):
            for names in given.lists():
                runs = runs_of(given.works(), names)
                self.assertEqual([name for run in runs for name in run], names)
                hues = [{given.by_name[name][1] for name in run} for run in runs]
                self.assertTrue(all(len(each) == 1 for each in hues))
                self.assertTrue(all(one != other for one, other in zip(hues, hues[1:])))


class NoPlanTest(unittest.TestCase):
    def refuses(self, works, names):
        for ask in all_asks(works, names):
            with self.assertRaises(RinseError) as caught:
                ask()
            self.assertIs(type(caught.exception), NoPlan)
        self.assertIs(is_plan(works, names), False)

    def test_a_name_twice(self):
        for names in [["a", "a"], ["a", "b", "a"], ["a", "b", "c", "d", "d"], ["a", "a", "b", "b"], ["a", "b", "b", "d"]]:
            self.refuses(WORKS, names)

    def test_something_else_than_names(self):
        for thing in NO_NAMES + [{"a"}, frozenset(["a"])]:
            if thing != "a":
                for names in [[thing], [thing, "a"], ["a", thing], ["a", "b", "c", "d", thing], ["a", "b", thing, "d"]]:
                    self.refuses(WORKS, names)
                self.refuses(Works(TWO, []), [thing])
                self.refuses(WORKS, [thing, thing])

    def test_a_name_that_is_gone(self):
        self.refuses(WORKS.without("a"), ["a"])
        self.refuses(WORKS.begun(["a"]), ["b", "a"])
        self.refuses(WORKS.only(["a"]), ["b"])

    def test_no_list_at_all(self):
        for thing in NO_NAMES:
            if not isinstance(thing, list):
                self.refuses(WORKS, thing)

    def test_is_plan(self):
        self.assertIs(is_plan(WORKS, ["a", "b", "c", "d"]), True)
        self.assertIs(is_plan(Works(TWO, []), []), True)
        self.assertIs(is_plan(WORKS, []), False)
        for given in small_ones(1, 4):
            works = given.works()
            for names in given.lists():
                self.assertIs(is_plan(works, names), len(names) == len(given.names))


class OwnListsTest(unittest.TestCase):
    def test_told_lists_are_the_asker_s_own(self):
        for names in [[], ["b"], ["b", "a", "d", "c"]]:
            for ask in [done_rows, late_ones, runs_of]:
                ahead = told_of(WORKS)
                handed = list(names)
                check_own_lists(self, lambda: ask(WORKS, handed))
                self.assertEqual(handed, names)
                self.assertEqual(told_of(WORKS), ahead)

    def test_nothing_handed_in_is_changed(self):
        names = ["c", "a", "b"]
        ahead = told_of(WORKS)
        for ask in all_asks(WORKS, names) + [lambda: is_plan(WORKS, names)]:
            self.assertEqual(ask(), ask())
        self.assertEqual(names, ["c", "a", "b"])
        self.assertEqual(told_of(WORKS), ahead)

    def test_kinds(self):
        rows = done_rows(WORKS, ["a", "b"])
        self.assertEqual([type(rows)] + [type(row) for row in rows], [list, tuple, tuple])


if __name__ == "__main__":
    unittest.main()
