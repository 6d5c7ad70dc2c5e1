"""Points 2, 4, 6, 12, 90 and 91: trayed plans, their ends and latenesses, tray moves, due order of trays."""

import copy
import unittest

from rinsework.errors import NoMove, NoPlan, RinseError
from rinsework.trays import in_tray_order, tray_end, tray_lateness, tray_rows, tray_walked, trays_to_dues
from rinsework.works import Works
from tests.made import GREAT, NO_NAMES, Given, check_own_lists, made, small_ones, told_of

RINSES = [[2, 3], [4, 1], [1, 2]]
# The due rows are a, d and c, b.
BY_HAND = Given(RINSES, [("a", 0, 5, 10, 1), ("b", 1, 6, 20, 1), ("c", 1, 7, 15, 1), ("d", 0, 2, 30, 1)])
NO_TRAYED_PLANS = [[], [[]], [["a", "d"], ["c"]], [["a", "d"], ["c", "b"], []], [[], ["a", "d"], ["c", "b"]],
                   [["a", "d"], [], ["c", "b"]], [["a", "d", "c", "b"]], [["a", "c"], ["d"], ["b"]],
                   [["a", "d"], ["c", "b"], ["a"]], [["a", "d", "a"], ["c", "b"]], [["a", "d"], ["c", "b", "e"]],
                   [["a", "d"], ["c", "b"], ["nocloth"]], [["a", "d"], ["c", "c"]], [["a", "a"], ["c", "b"]]]
ASKS = [tray_rows, tray_end, tray_lateness, in_tray_order, trays_to_dues, lambda works, trays: tray_walked(works, trays, []),
        lambda works, trays: tray_walked(works, trays, [("nocloth", 99)])]


class TrayRowsTest(unittest.TestCase):
    def told(self, works, trays, rows, late):
        self.assertEqual(tray_rows(works, trays), rows)
        self.assertEqual(tray_end(works, trays), rows[-1][1])
        self.assertEqual(tray_lateness(works, trays), late)

    def test_told_by_hand(self):
        works = BY_HAND.works()
        self.told(works, [["a", "d"], ["c", "b"]], [(1, 8), (11, 24)], 9)
        self.told(works, [["d", "a"], ["b", "c"]], [(1, 8), (11, 24)], 9)
        # Between two trays of one hue there is a rinse too, of 2 and of 1.
        self.told(works, [["a"], ["d"], ["c", "b"]], [(1, 6), (8, 10), (13, 26)], 11)
        self.told(works, [["a", "d"], ["c"], ["b"]], [(1, 8), (11, 18), (19, 25)], 5)
        self.told(works, [["b"], ["c"], ["d"], ["a"]], [(2, 8), (9, 16), (20, 22), (24, 29)], 19)

    def test_a_rinse_at_the_start(self):
        for last, begin in [(None, 1), (-1, 1), (0, 2), (1, 4)]:
            works = Works(RINSES, [("a", 0, 5, 10, 1)], last, 100)
            self.told(works, [["a"]], [(100 + begin, 105 + begin)], 95 + begin)

    def test_the_least_rinse_within_one_hue(self):
        # From 0 to 0 over 1 takes 2, straight it would take 9.
        works = Works([[9, 1], [1, 7], [0, 0]], [("a", 0, 5, 10, 1), ("b", 0, 5, 10, 1)], 0)
        self.told(works, [["a"], ["b"]], [(2, 7), (9, 14)], 4)
        self.told(works, [["a", "b"]], [(2, 12)], 2)

    def test_without_cloths(self):
        for last, time in [(None, 0), (1, 7)]:
            works = Works(RINSES, [], last, time)
            self.assertEqual(tray_rows(works, []), [])
            self.assertEqual(tray_end(works, []), time)
            self.assertIsNone(tray_lateness(works, []))
            self.assertIs(in_tray_order(works, []), True)
            self.assertEqual(trays_to_dues(works, []), [])
            self.assertEqual(tray_walked(works, [], []), [])

    def test_held_against_other_words(self):
        for given in small_ones(2, 4):
            works = given.works()
            for trays in given.trayed_plans():
                rows = tray_rows(works, trays)
                self.assertEqual(rows, given.tray_rows(trays))
                self.assertEqual(tray_end(works, trays), given.tray_end(trays))
                self.assertEqual(tray_lateness(works, trays), given.tray_late(trays))

    def test_ten_cloths(self):
        given = made(5, 10, 2, GREAT)
        trays = [[name] for name in given.names]
        self.assertEqual(tray_rows(given.works(), trays), given.tray_rows(trays))
        self.assertEqual(tray_lateness(given.works(), given.due_rows()), given.tray_late(given.due_rows()))

    def test_kinds(self):
        told = tray_rows(BY_HAND.works(), [["a", "d"], ["c", "b"]])
        self.assertEqual([type(told), type(told[0]), type(told[0][0])], [list, tuple, int])


class NoPlanTest(unittest.TestCase):
    def refused(self, works, trays):
        for ask in ASKS:
            with self.assertRaises(RinseError) as caught:
                ask(works, trays)
            self.assertIs(type(caught.exception), NoPlan, trays)

    def test_what_is_no_trayed_plan(self):
        for trays in NO_TRAYED_PLANS:
            self.refused(BY_HAND.works(), trays)

    def test_what_is_no_name(self):
        for thing in NO_NAMES:
            for trays in [[[thing, "d"], ["c", "b"]], [["a", "d"], ["c", thing]], [["a", "d"], ["c", "b"], [thing]],
                          [["a", "d"], ["c", "b", thing]], [[thing], ["a", "d"], ["c", "b"]]]:
                self.refused(BY_HAND.works(), trays)

    def test_what_is_no_list_of_lists(self):
        for trays in [None, 5, "a", ("a",), ["a", "d", "c", "b"], [("a", "d"), ["c", "b"]], [["a", "d"], "cb"], [None]]:
            self.refused(BY_HAND.works(), trays)

    def test_without_cloths(self):
        for trays in [[[]], [["a"]], [[], []], [[None]]]:
            self.refused(Works(RINSES, []), trays)


class OrderTest(unittest.TestCase):
    def test_told_by_hand(self):
        works = BY_HAND.works()
        for trays, said in [([["a", "d"], ["c", "b"]], True), ([["d", "a"], ["b", "c"]], True),
                            ([["a"], ["c", "b"], ["d"]], True), ([["c"], ["a"], ["d"], ["b"]], True),
                            ([["d"], ["a"], ["c", "b"]], False), ([["b"], ["a", "d"], ["c"]], False),
                            ([["a"], ["b"], ["d"], ["c"]], False), ([["d"], ["b"], ["a"], ["c"]], False)]:
            self.assertIs(in_tray_order(works, trays), said, trays)

    def test_alike_dues_go_by_their_names(self):
        works = Works(RINSES, [("b", 0, 5, 7, 1), ("a", 0, 6, 7, 1)])
        self.assertIs(in_tray_order(works, [["a"], ["b"]]), True)
        self.assertIs(in_tray_order(works, [["b"], ["a"]]), False)
        self.assertIs(in_tray_order(works, [["b", "a"]]), True)

    def test_held_against_each_two_cloths(self):
        for given in small_ones(2, 4):
            for trays in given.trayed_plans():
                self.assertIs(in_tray_order(given.works(), trays), given.tray_order(trays))


class WalkedTest(unittest.TestCase):
    def test_told_by_hand(self):
        works = BY_HAND.works()
        trays = [["d"], ["c"], ["a"], ["b"]]
        for moves, behind in [([], trays), ([("d", 2)], [["c"], ["a", "d"], ["b"]]),
                              ([("a", 0)], [["d", "a"], ["c"], ["b"]]),
                              ([("c", 3)], [["d"], ["a"], ["b", "c"]]),
                              ([("b", 1)], [["d"], ["c", "b"], ["a"]]),
                              # The first tray goes, so the ones behind it have shifted for the second move.
                              ([("d", 2), ("b", 0)], [["c", "b"], ["a", "d"]]),
                              ([("d", 2), ("c", 2)], [["a", "d"], ["b", "c"]])]:
            told = tray_walked(works, trays, moves)
            self.assertEqual(told, behind)

    def test_trays_that_stay(self):
        works = BY_HAND.works()
        trays = [["a", "d"], ["c", "b"]]
        more = Works(RINSES, BY_HAND.cloths + [("e", 0, 1, 1, 1)])
        self.assertEqual(tray_walked(more, trays + [["e"]], [("a", 2)]), [["d"], ["c", "b"], ["e", "a"]])
        self.assertEqual(tray_walked(more, trays + [["e"]], [("a", 2), ("d", 2)]), [["c", "b"], ["e", "a", "d"]])
        self.assertEqual(tray_walked(more, trays + [["e"]], [("e", 0)]), [["a", "d", "e"], ["c", "b"]])
        self.assertEqual(tray_walked(works, trays, []), trays)

    def refused(self, trays, moves, number):
        with self.assertRaises(NoMove) as caught:
            tray_walked(BY_HAND.works(), trays, moves)
        self.assertEqual(caught.exception.at, number, moves)

    def test_moves_that_are_none(self):
        trays = [["d"], ["c"], ["a"], ["b"]]
        wrong = [("e", 0), ("", 0), ("nocloth", 2), ("A", 0), ("d", 0), ("d", 1), ("d", 3), ("d", 4), ("d", -1), ("d", -2),
                 ("a", 2), ("a", -4), ("c", 0), ("c", 1), ("c", -1), ("b", 3), ("b", 4), ("b", -3), ("a", GREAT),
                 ("a", -GREAT)]
        for move in wrong:
            self.refused(trays, [move], 0)
            self.refused(trays, [move, ("nocloth", 0)], 0)
            self.refused(trays, [move, ("a", 0)], 0)

    def test_the_number_of_the_first_one(self):
        trays = [["d"], ["c"], ["a"], ["b"]]
        self.refused(trays, [("d", 2), ("d", 2)], 1)
        self.refused(trays, [("d", 2), ("d", 1)], 1)
        self.refused(trays, [("d", 2), ("a", 0)], 1)
        # Behind the first move there are three trays, behind the second two.
        self.refused(trays, [("d", 2), ("b", 3)], 1)
        self.refused(trays, [("d", 2), ("b", 0), ("c", 1)], 2)
        self.refused(trays, [("d", 2), ("b", 0), ("c", 0), ("nocloth", 0)], 2)
        self.refused([["a", "d"], ["c", "b"]], [("a", 0)], 0)

    def test_what_is_handed_in_stays(self):
        trays, moves = [["d"], ["c"], ["a"], ["b"]], [("d", 2), ("b", 0)]
        ahead = copy.deepcopy((trays, moves))
        tray_walked(BY_HAND.works(), trays, moves)
        self.refused(trays, moves + [("a", 99)], 2)
        self.assertEqual((trays, moves), ahead)


class ToDuesTest(unittest.TestCase):
    def test_told_by_hand(self):
        works = BY_HAND.works()
        self.assertEqual(trays_to_dues(works, [["d"], ["a"], ["c", "b"]]), [("d", 1)])
        self.assertEqual(trays_to_dues(works, [["a", "d"], ["c", "b"]]), [])

    def held(self, given, trays):
        works = given.works()
        moves = trays_to_dues(works, trays)
        self.assertLessEqual(len(moves), 100)
        self.assertEqual(moves == [], given.tray_order(trays))
        now = trays
        for move in moves:
            self.assertEqual([type(move)] + [type(part) for part in move], [tuple, str, int])
            then = tray_walked(works, now, [move])
            self.assertLessEqual(given.tray_late(then), given.tray_late(now), (given.cloths, trays, move))
            self.assertLessEqual(given.tray_end(then), given.tray_end(now), (given.cloths, trays, move))
            now = then
        self.assertEqual(now, tray_walked(works, trays, moves))
        self.assertTrue(given.tray_order(now))
        self.assertIs(in_tray_order(works, now), True)
        return len(moves)

    def test_all_trayed_plans(self):
        several = 0
        for given in [made(seed, many, hues, most) for seed in range(6) for many in range(5) for hues in (1, 2, 3)
                      for most in (2, 9, GREAT)]:
            for trays in given.trayed_plans():
                several += self.held(given, trays) > 1
        self.assertGreater(several, 1000)

    def test_five_cloths(self):
        for given in [made(seed, 5, hues, most) for seed in range(2) for hues in (1, 2) for most in (3, 12)]:
            for trays in given.trayed_plans():
                self.held(given, trays)

    def test_ten_cloths(self):
        for seed in range(10):
            for hues in (1, 2, 3):
                given = made(seed, 10, hues, 9)
                self.held(given, [[name] for name in given.names])
                self.held(given, [row[::-1] for row in given.due_rows() if row])
                self.held(given, [[name] for row in given.due_rows() for name in row[::-1]])
                self.held(given, [row[cut:cut + 2] for cut in (8, 6, 4, 2, 0) for row in given.due_rows() if row[cut:cut + 2]])


class OwnListsTest(unittest.TestCase):
    def test_told_lists_are_the_asker_s_own(self):
        for given in small_ones(1, 3):
            works = given.works()
            ahead = told_of(works)
            for trays in given.trayed_plans():
                kept = copy.deepcopy(trays)
                for ask in ASKS[:-1]:
                    check_own_lists(self, lambda: ask(works, trays))
                moves = trays_to_dues(works, trays)
                check_own_lists(self, lambda: tray_walked(works, trays, moves))
                self.assertEqual(trays, kept)
            self.assertEqual(told_of(works), ahead)

    def test_what_was_walked_is_no_list_that_was_handed_in(self):
        trays = [["d"], ["c"], ["a"], ["b"]]
        for moves in [[], [("d", 2)]]:
            told = tray_walked(BY_HAND.works(), trays, moves)
            for tray in [told] + told:
                tray.append("spoiled")
            self.assertEqual(trays, [["d"], ["c"], ["a"], ["b"]])


if __name__ == "__main__":
    unittest.main()
