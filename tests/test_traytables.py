"""Points 2, 6, 12 and 92: tables with trays, a trayed plan or a table for a bound, the least lateness with trays."""

import random
import unittest

from rinsework.stair import least_late
from rinsework.tables import bars, soonest
from rinsework.trays import in_tray_order, tray_lateness
from rinsework.traytables import tray_bars, tray_kept, tray_least
from rinsework.works import Works
from tests.made import (GREAT, Given, changed, changed_by_chance, check_like_works, check_own_answers, check_stays,
                        made, near, small_ones)

RINSES = [[2, 3], [4, 1], [1, 2]]
# The due rows are a and c, b. In trays a, c, b the ends are 6, 16, 23, in trays a, cb 6 and 22.
BY_HAND = Given(RINSES, [("a", 0, 5, 10, 1), ("b", 1, 6, 20, 1), ("c", 1, 7, 15, 1)])
# Named by the trays that are done, for the bound 2.
START, A, C, CB, A_C = ((0, 0), -1, 0), ((1, 0), 0, 6), ((0, 1), 1, 9), ((0, 2), 1, 15), ((1, 1), 1, 16)
TABLE = [START, A, C, CB, A_C]


def fewer(given):
    """The works once more, with trays that break at once: a rinse of 100 within a hue."""
    rinses = [[100 if f == g else rinse for g, rinse in enumerate(row)] for f, row in enumerate(given.rinses)]
    return Given(rinses, given.cloths, given.last, given.time)


class TrayKeptTest(unittest.TestCase):
    def test_told_by_hand(self):
        works = BY_HAND.works()
        self.assertEqual(tray_kept(works, 3), ("trays", [["a"], ["c"], ["b"]]))
        told = tray_kept(works, 2)
        self.assertEqual((type(told), told[0], sorted(told[1])), (tuple, "shut", sorted(TABLE)))
        self.assertEqual(tray_kept(works, None)[0], "trays")

    def test_one_tray_where_the_rinse_is_long(self):
        works = Works([[50], [0]], [("a", 0, 5, 10, 1), ("b", 0, 6, 20, 1)])
        self.assertEqual(tray_kept(works, 1), ("trays", [["a", "b"]]))
        self.assertEqual(tray_kept(works, 0)[0], "shut")

    def test_without_cloths(self):
        for bound in (None, 0, -GREAT):
            self.assertEqual(tray_kept(Works(RINSES, [], 1, 9), bound), ("trays", []))

    def held(self, given):
        works = given.works()
        lates = [given.tray_late(trays) for trays in given.trayed_plans()]
        for bound in near([late for late in lates if late is not None]):
            word, told = tray_kept(works, bound)
            if bound is None or not given.names or min(lates) <= bound:
                self.assertEqual((word, type(told)), ("trays", list))
                self.assertEqual(sorted(name for tray in told for name in tray), given.names)
                late = tray_lateness(works, told)
                self.assertTrue(bound is None or late is None or late <= bound)
                self.assertEqual(late, given.tray_late(told))
            else:
                self.assertEqual((word, type(told)), ("shut", list))
                self.assertTrue(given.tray_bars(bound, told))
                self.assertIs(tray_bars(works, bound, told), True)
                self.assertIs(tray_bars(works, bound, told, None), True)

    def test_just_one_of_trays_and_a_table(self):
        for given in small_ones(4, 4):
            self.held(given)
            self.held(fewer(given))

    def test_five_cloths(self):
        for given in [made(seed, 5, hues, most) for seed in range(2) for hues in (1, 2, 3) for most in (3, 12, GREAT)]:
            self.held(given)


class TrayLeastTest(unittest.TestCase):
    def test_told_by_hand(self):
        late, trays, table = tray_least(BY_HAND.works())
        self.assertEqual((late, trays), (3, [["a"], ["c"], ["b"]]))
        self.assertIs(tray_bars(BY_HAND.works(), 2, table), True)
        works = Works([[50], [0]], [("a", 0, 5, 10, 1), ("b", 0, 6, 20, 1)])
        self.assertEqual(tray_least(works)[:2], (1, [["a", "b"]]))
        # At the start there is a rinse within the hue, too.
        works = Works([[50], [0]], [("a", 0, 5, 10, 1)], 0, 7)
        self.assertEqual(tray_least(works)[:2], (52, [["a"]]))

    def test_without_cloths(self):
        self.assertIsNone(tray_least(Works(RINSES, [])))
        self.assertIsNone(tray_least(Works(RINSES, [], 1, 5)))

    def held(self, given):
        works = given.works()
        told = tray_least(works)
        if not given.names:
            self.assertIsNone(told)
            return
        late, trays, table = told
        self.assertEqual([type(part) for part in [told, late, trays, table]], [tuple, int, list, list])
        self.assertEqual(late, min(given.tray_late(each) for each in given.trayed_plans()))
        self.assertEqual(sorted(name for tray in trays for name in tray), given.names)
        self.assertEqual((tray_lateness(works, trays), given.tray_late(trays)), (late, late))
        self.assertTrue(given.tray_bars(late - 1, table))
        self.assertIs(tray_bars(works, late - 1, table), True)
        self.assertGreaterEqual(late, least_late(works)[0])

    def test_held_against_all_trayed_plans(self):
        for given in small_ones(4, 4):
            self.held(given)
            self.held(fewer(given))

    def test_five_cloths(self):
        for given in [made(seed, 5, hues, most) for seed in range(2) for hues in (1, 2, 3) for most in (3, 12, GREAT)]:
            self.held(given)

    def test_without_rinses_within_a_hue_as_one_behind_the_other(self):
        # In a tray a cloth ends no sooner than by itself, so where a rinse takes nothing each has its own tray.
        for given in small_ones(2):
            rinses = [[0 if f == g else rinse for g, rinse in enumerate(row)] for f, row in enumerate(given.rinses)]
            works = Works(rinses, given.cloths, given.last, given.time)
            if given.names:
                self.assertEqual(tray_least(works)[0], least_late(works)[0])

    def test_ten_cloths(self):
        for seed in range(2):
            for hues in (1, 2, 3, 4):
                for most in (5, GREAT):
                    given = made(seed, 10, hues, most)
                    works = given.works()
                    late, trays, table = tray_least(works)
                    self.assertEqual((given.tray_late(trays), in_tray_order(works, trays)), (late, True))
                    self.assertIs(tray_bars(works, late - 1, table), True)
                    self.assertEqual(tray_kept(works, late)[0], "trays")
                    self.assertEqual(tray_kept(works, late - 1)[0], "shut")
                    self.assertGreaterEqual(late, least_late(works)[0])


class TrayBarsTest(unittest.TestCase):
    def setUp(self):
        self.works = BY_HAND.works()

    def bars(self, said, table, bound=2, end=None):
        self.assertIs(tray_bars(self.works, bound, table, end), said, (bound, table, end))

    def test_bounds(self):
        for bound, said in [(2, True), (3, False), (1, True), (None, False), (-GREAT, True)]:
            self.bars(said, TABLE, bound)

    def test_a_row_left_out(self):
        for place in range(len(TABLE)):
            self.bars(False, TABLE[:place] + TABLE[place + 1:])
        self.bars(False, [])

    def test_each_number_of_cloths_is_asked(self):
        # From the start c by itself is done with lateness -6, with b in its tray with 0, and behind c b with -4.
        by_itself = [START, A, C, ((0, 2), 1, 16)]
        for bound, table, said in [(-7, [START], True), (-6, [START], False), (-6, [START, C], True),
                                   (-5, [START, C], True), (-4, [START, A, C], False), (-4, by_itself, True),
                                   (-4, [START, A, C, ((0, 2), 1, 17)], False), (-1, by_itself, True),
                                   (0, by_itself, False), (0, [START, A, C, CB], True), (1, [START, A, C, CB], False)]:
            self.bars(said, table, bound)

    def test_a_row_twice(self):
        for row in TABLE:
            for more in (0, 1, -1):
                self.bars(False, TABLE + [row[:2] + (row[2] + more,)])
                self.bars(False, [row[:2] + (row[2] + more,)] + TABLE)

    def test_a_row_later(self):
        for place, row in enumerate(TABLE):
            self.bars(False, changed(TABLE, place, row[:2] + (row[2] + 1,)))

    def test_in_any_order(self):
        chance = random.Random(9)
        table = list(TABLE)
        for turn in range(20):
            chance.shuffle(table)
            self.bars(True, table)

    def test_counts_and_lasts(self):
        for counts in [(-1, 0), (0, -1), (2, 0), (0, 3), (2, 2), (1, 3), (2, 3), (GREAT, 0), (0, -GREAT)]:
            for last in (-1, 0, 1):
                self.bars(False, TABLE + [(counts, last, GREAT)])
                self.bars(False, TABLE + [(counts, last, GREAT)], 2, 5)
        for last in [-2, 2, 3, GREAT, -GREAT]:
            self.bars(False, TABLE + [((1, 1), last, GREAT)])
            self.bars(False, TABLE + [((1, 2), last, GREAT)], 2, 5)
        for last in (-1, 0):
            self.bars(True, TABLE + [((1, 1), last, GREAT)])

    def test_the_rinse_within_a_hue(self):
        # From the second hue c would end at 1 + 1 + 7 and the row of it says 9; a tray of both at 15.
        self.bars(True, TABLE + [((0, 0), 1, 1)])
        self.bars(False, TABLE + [((0, 0), 1, 0)])

    def test_an_end(self):
        # In trays a, cb all are done at 22; the latest is c then, by 7. In trays cb, a all are done at 24.
        everything = [START, A, C, CB, A_C, ((1, 1), 0, 18), ((1, 2), 1, 22), ((1, 2), 0, 24)]
        for end, said in [(22, True), (21, True), (23, False), (None, False), (-GREAT, True), (GREAT, False)]:
            self.bars(said, everything, None, end)
        for end, said in [(22, True), (23, False), (None, False)]:
            self.bars(said, TABLE + [((1, 2), 1, 22)], 7, end)
        # For the bound 3 the end is 23, for the bound 2 there is none.
        for end, said in [(23, True), (24, False), (None, False)]:
            self.bars(said, TABLE + [((1, 2), 1, 23)], 3, end)
        self.bars(True, TABLE, 2, GREAT)

    def test_the_start(self):
        works = Works(RINSES, [("a", 0, 5, 10, 1)], 0, 4)
        for row, said in [(((0, 0), 0, 4), True), (((0, 0), 0, 3), False), (((0, 0), 0, 5), False),
                          (((0, 0), -1, 4), False), (((0, 0), 1, 4), False)]:
            self.assertIs(tray_bars(works, 0, [row]), said, row)
        self.assertIs(tray_bars(works, -1, [((0, 0), 0, 3)]), True)

    def test_without_cloths(self):
        works = Works(RINSES, [], 1, 9)
        for bound in (None, 0, -GREAT):
            for row, end, said in [(((0, 0), 1, 9), None, False), (((0, 0), 1, 9), 9, True), (((0, 0), 1, 9), 10, False),
                                   (((0, 0), 1, 10), 9, False), (((0, 0), -1, 9), 9, False)]:
                self.assertIs(tray_bars(works, bound, [row], end), said)

    def test_tables_for_one_behind_the_other(self):
        # With trays there is no plan that keeps 2, one behind the other there is.
        self.assertIs(bars(self.works, 2, TABLE), False)
        self.assertIs(tray_bars(self.works, 1, soonest(self.works, 1)), True)

    def test_by_chance(self):
        # Held against points 42 and 92 clause by clause, and against all trayed plans.
        chance = random.Random(92)
        said = {True: 0, False: 0}
        for given in small_ones(3, 4):
            works = given.works()
            plans = [(given.tray_late(trays), given.tray_end(trays)) for trays in given.trayed_plans()]
            for bound in near([late for late, end in plans if late is not None]):
                for end in [None, min(end for late, end in plans), max(end for late, end in plans)]:
                    told = tray_kept(works, bound)
                    table = told[1] if told[0] == "shut" else soonest(works, bound)
                    for turn in range(3):
                        answer = tray_bars(works, bound, table, end)
                        self.assertIs(answer, given.tray_bars(bound, table, end), (given.cloths, bound, table, end))
                        said[answer] += 1
                        if answer:
                            kept = [ended for late, ended in plans if bound is None or late is None or late <= bound]
                            self.assertTrue(all(end is not None and ended >= end for ended in kept))
                        table = changed_by_chance(chance, given, table) if table else table
        self.assertGreater(min(said.values()), 300)


class OwnListsTest(unittest.TestCase):
    def test_told_lists_are_the_asker_s_own(self):
        check_own_answers(self, [tray_kept, lambda works, bound: tray_least(works)])

    def test_tables_handed_in_stay(self):
        works = BY_HAND.works()
        check_stays(self, lambda table: tray_bars(works, 2, table, 5), [TABLE[::-1], TABLE[3:], []])

    def test_the_same_for_like_works(self):
        check_like_works(self, [tray_kept, lambda works, bound: tray_least(works)])


if __name__ == "__main__":
    unittest.main()
