"""Points 2, 6, 12, 80 and 81: lated rows, what bars fewer late ones, the fewest late cloths with a plan and a table."""

import random
import unittest

from rinsework.lates import bars_late, fewest
from rinsework.plans import is_plan, late_ones
from rinsework.works import Works
from tests.made import (GREAT, Given, changed, changed_by_chance, check_like_works, check_own_answers, check_stays,
                        made, small_ones)

TWO = [[0, 3], [4, 0], [1, 2]]
# Only a, or only b, is done in time; c, which is due first of the second hue, never.
BY_HAND = Given(TWO, [("a", 0, 5, 10, 1), ("b", 1, 6, 14, 1), ("c", 1, 7, 8, 1)])
START, A_DONE, A_GONE, C_GONE = ((0, 0), -1, 0, 0), ((1, 0), 0, 0, 6), ((1, 0), -1, 1, 0), ((0, 1), -1, 1, 0)
A_DONE_C_GONE, C_GONE_B_DONE = ((1, 1), 0, 1, 6), ((0, 2), 1, 1, 8)
TABLE = [START, A_DONE, A_GONE, C_GONE, A_DONE_C_GONE, C_GONE_B_DONE]


class FewestTest(unittest.TestCase):
    def test_told_by_hand(self):
        works = BY_HAND.works()
        many, plan, table = fewest(works)
        self.assertEqual((many, len(late_ones(works, plan))), (2, 2))
        self.assertEqual(sorted(table), sorted(TABLE))
        # With c due at 15, c and b are done at 9 and 15, or a and b at 6 and 15.
        works = Works(TWO, [("a", 0, 5, 10, 1), ("b", 1, 6, 20, 1), ("c", 1, 7, 15, 1)])
        many, plan, table = fewest(works)
        self.assertEqual((many, len(late_ones(works, plan))), (1, 1))
        self.assertEqual(sorted(table), [((0, 0), -1, 0, 0), ((0, 1), 1, 0, 9), ((0, 2), 1, 0, 15), ((1, 0), 0, 0, 6)])

    def test_none_is_late(self):
        works = Works(TWO, [("a", 0, 5, 6, 1), ("c", 1, 7, 16, 1)])
        self.assertEqual(fewest(works), (0, ["a", "c"], []))
        # A cloth that ends just at its due is not late; one that ends one behind it is.
        self.assertEqual(fewest(Works(TWO, [("a", 0, 5, 6, 1)])), (0, ["a"], []))
        self.assertEqual(fewest(Works(TWO, [("a", 0, 5, 5, 1)]))[:2], (1, ["a"]))

    def test_all_are_late(self):
        cloths = [("a", 0, 5, -5, 1), ("b", 1, 6, 0, 1), ("c", 1, 7, 3, 1)]
        many, plan, table = fewest(Works(TWO, cloths))
        self.assertEqual((many, sorted(plan)), (3, ["a", "b", "c"]))
        self.assertIs(bars_late(Works(TWO, cloths), 3, table), True)

    def test_a_start(self):
        cloths = [("a", 0, 5, 12, 1)]
        for last, time, many in [(0, 7, 0), (0, 8, 1), (1, 3, 0), (1, 4, 1), (-1, 6, 0), (-1, 7, 1)]:
            self.assertEqual(fewest(Works(TWO, cloths, last, time))[:2], (many, ["a"]))

    def test_without_cloths(self):
        for last, time in [(-1, 0), (0, 5), (1, GREAT)]:
            self.assertEqual(fewest(Works(TWO, [], last, time)), (0, [], []))

    def test_the_least_rinses_are_reckoned_with(self):
        self.assertEqual(fewest(Works([[0, 9], [1, 0], [50, 1]], [("a", 0, 3, 5, 2)]))[0], 0)
        self.assertEqual(fewest(Works([[0, 9], [1, 0], [50, 1]], [("a", 0, 3, 4, 2)]))[0], 1)

    def held(self, given):
        works = given.works()
        told = fewest(works)
        many, plan, table = told
        self.assertEqual([type(part) for part in [told, many, plan, table]], [tuple, int, list, list])
        self.assertEqual(many, min(given.lates(order) for order in given.orders()))
        self.assertEqual((sorted(plan), given.lates(plan), len(late_ones(works, plan))), (given.names, many, many))
        self.assertTrue(given.bars_late(many, table))
        self.assertIs(bars_late(works, many, table), True)
        self.assertIs(bars_late(works, many + 1, table), False)
        self.assertEqual(table == [], many == 0)
        return many

    def test_held_against_all_orders(self):
        seen = {}
        for given in small_ones(5):
            many = self.held(given)
            seen[many] = seen.get(many, 0) + 1
        self.assertGreater(min(seen[many] for many in range(5)), 10)

    def test_seven_cloths(self):
        for given in [made(2, 7, 3, 9), made(3, 7, 4, GREAT)]:
            self.held(given)

    def test_ten_cloths(self):
        for seed in range(3):
            for hues in (1, 2, 3, 4):
                for most in (2, 9, GREAT):
                    works = made(seed, 10, hues, most).works()
                    many, plan, table = fewest(works)
                    self.assertTrue(is_plan(works, plan))
                    self.assertEqual(len(late_ones(works, plan)), many)
                    self.assertIs(bars_late(works, many, table), True)

    def test_kinds_of_rows(self):
        rows = fewest(made(1, 5, 3, 12).works())[2]
        self.assertGreater(len(rows), 5)
        for row in rows:
            self.assertEqual([type(row)] + [type(part) for part in row], [tuple, tuple, int, int, int])
            self.assertEqual([type(part) for part in row[0]], [int] * 3)


class BarsLateTest(unittest.TestCase):
    def setUp(self):
        self.works = BY_HAND.works()

    def bars(self, said, table, many=2):
        self.assertIs(bars_late(self.works, many, table), said, (many, table))

    def test_many(self):
        for many, said in [(2, True), (1, False), (0, False), (3, False), (GREAT, False)]:
            self.bars(said, TABLE, many)
        self.bars(True, [START, A_DONE], 1)

    def test_none_late(self):
        for works in [self.works, Works(TWO, []), Works(TWO, [], 1, 5)]:
            self.assertIs(bars_late(works, 0, []), True)
            for table in [TABLE, [START], [((0, 0), 1, 0, 5)], [((0, 0), -1, -1, 0)]]:
                self.assertIs(bars_late(works, 0, table), False)
            for many in (1, 2, GREAT):
                self.assertIs(bars_late(works, many, []), False)

    def test_without_cloths(self):
        # The noughts have all cloths done there, so nothing bars any number above 0.
        for works in [Works(TWO, []), Works(TWO, [], 1, 5)]:
            for many in (1, 2):
                for last in (-1, 0, 1):
                    self.assertIs(bars_late(works, many, [((0, 0), last, 0, 0)]), False)

    def test_in_any_order(self):
        chance = random.Random(8)
        table = list(TABLE)
        for turn in range(20):
            chance.shuffle(table)
            self.bars(True, table)

    def test_a_row_left_out(self):
        for place in range(len(TABLE)):
            self.bars(False, TABLE[:place] + TABLE[place + 1:])

    def test_a_row_twice(self):
        for row in TABLE:
            for more in (0, 1, -1):
                self.bars(False, TABLE + [row[:3] + (row[3] + more,)])
                self.bars(False, [row[:3] + (row[3] + more,)] + TABLE)

    def test_rows_unlike_in_late_alone(self):
        # Behind c, let go with none late, b ends at 8 and is due at 14, and a ends at 6.
        self.bars(True, TABLE + [((0, 0), -1, 1, 5)])
        self.bars(True, TABLE + [((1, 0), 0, 1, 2)])

    def test_a_row_later(self):
        for place, row in enumerate(TABLE):
            self.bars(False, changed(TABLE, place, row[:3] + (row[3] + 1,)))

    def test_a_row_sooner(self):
        # When a ends at 5, b would end at 14, which is its due, and all would be done or let go.
        self.bars(False, changed(TABLE, 4, A_DONE_C_GONE[:3] + (5,)))
        # When b ends at 2 or 1, a ends at 11 or 10.
        self.bars(True, changed(TABLE, 5, C_GONE_B_DONE[:3] + (2,)))
        self.bars(False, changed(TABLE, 5, C_GONE_B_DONE[:3] + (1,)))
        self.bars(False, changed(TABLE, 0, START[:3] + (-1,)))

    def test_lates_out_of_reach(self):
        for late in (2, 3, -1, -2, GREAT, -GREAT):
            for row in TABLE:
                for time in (row[3], GREAT):
                    self.bars(False, TABLE + [row[:2] + (late, time)])

    def test_counts_out_of_reach(self):
        for counts in [(-1, 0), (0, -1), (2, 0), (0, 3), (2, 2), (1, 3), (2, 3), (GREAT, 0), (0, -GREAT)]:
            for last in (-1, 0, 1):
                for late in (0, 1):
                    self.bars(False, TABLE + [(counts, last, late, GREAT)])

    def test_lasts(self):
        for last in [-2, 2, 3, GREAT, -GREAT]:
            self.bars(False, TABLE + [((1, 1), last, 1, GREAT)])
            self.bars(False, TABLE + [((0, 2), last, 1, GREAT)])
        for last in (-1, 1):
            self.bars(True, TABLE + [((1, 1), last, 1, GREAT)])

    def test_all_done_or_let_go(self):
        for last in (-1, 0, 1):
            for late in (0, 1):
                self.bars(False, TABLE + [((1, 2), last, late, GREAT)])

    def test_rows_that_nothing_leads_to(self):
        # With a and c let go in a fresh vat b ends eight later, in the second hue six later.
        for last, most in [(-1, 6), (1, 8)]:
            self.bars(True, TABLE + [((1, 1), last, 1, most + 1)])
            self.bars(False, TABLE + [((1, 1), last, 1, most)])
        # From c done at 20 nothing is done in time, and a and b are let go; b gone stands there already.
        self.bars(False, TABLE + [((0, 1), 1, 0, 20)])
        for time, said in [(20, True), (19, True), (9, True), (8, False), (21, False)]:
            self.bars(said, TABLE + [((0, 1), 1, 0, 20), ((1, 1), 1, 1, time)])

    def test_the_start(self):
        works = Works(TWO, [("a", 0, 5, 12, 1)], 1, 4)
        self.assertIs(bars_late(works, 1, [((0, 0), 1, 0, 4)]), True)
        for row in [((0, 0), 1, 0, 5), ((0, 0), 0, 0, 4), ((0, 0), -1, 0, 4), ((0, 0), 1, 1, 4), ((0, 0), 1, 0, 3)]:
            self.assertIs(bars_late(works, 1, [row]), False, row)
        sooner = Works(TWO, [("a", 0, 5, 11, 1)], 1, 4)
        self.assertIs(bars_late(sooner, 1, [((0, 0), 1, 0, 3)]), True)

    def test_by_chance(self):
        # Held against point 80 clause by clause, and against all orders.
        chance = random.Random(80)
        said = {True: 0, False: 0}
        for given in small_ones(3):
            works = given.works()
            least, plan, rows = fewest(works)
            for many in [least, least - 1, least + 1] if least else [least, least + 1]:
                table = rows
                for turn in range(10):
                    answer = bars_late(works, many, table)
                    self.assertIs(answer, given.bars_late(many, table), (given.cloths, many, table))
                    self.assertFalse(answer and many > least)
                    said[answer] += 1
                    table = changed_by_chance(chance, given, table) if table else table
        self.assertGreater(min(said.values()), 300)


class OwnListsTest(unittest.TestCase):
    def test_told_lists_are_the_asker_s_own(self):
        check_own_answers(self, [lambda works, bound: fewest(works)])

    def test_tables_handed_in_stay(self):
        works = BY_HAND.works()
        check_stays(self, lambda table: bars_late(works, 2, table), [TABLE[::-1], TABLE[3:], []])

    def test_the_same_for_like_works(self):
        check_like_works(self, [lambda works, bound: fewest(works)])


if __name__ == "__main__":
    unittest.main()
