"""Points 2, 6, 12 and 40 to 43: rows of states, the soonest table, what a table bars, a plan or a table for a bound."""

import random
import unittest

from rinsework.plans import is_plan, keeps
from rinsework.tables import bars, plan_for, soonest
from rinsework.works import Works
from tests.made import (GREAT, Given, changed, changed_by_chance, check_like_works, check_own_answers, check_stays,
                        made, small_ones)

TWO = [[0, 3], [4, 0], [1, 2]]
BY_HAND = Given(TWO, [("a", 0, 5, 10, 1), ("b", 1, 6, 20, 1), ("c", 1, 7, 15, 1)])
# Named by the cloths that are done; those of the second hue are c and then b.
START, A, C, CB = ((0, 0), -1, 0), ((1, 0), 0, 6), ((0, 1), 1, 9), ((0, 2), 1, 15)
AC, CA, ACB, CBA = ((1, 1), 1, 16), ((1, 1), 0, 18), ((1, 2), 1, 22), ((1, 2), 0, 24)


class SoonestTest(unittest.TestCase):
    def test_told_by_hand(self):
        works = BY_HAND.works()
        self.assertEqual(soonest(works, None), [START, C, CB, A, CA, AC, CBA, ACB])
        # The lateness of a, c, b is 2, that of c, a, b is 8, that of c, b, a is 14.
        self.assertEqual(soonest(works, 2), [START, C, CB, A, AC, ACB])
        self.assertEqual(soonest(works, 1), [START, C, CB, A, AC])
        self.assertEqual(soonest(works, 0), [START, C, CB, A])
        self.assertEqual(soonest(works, -5), [START, C, CB])
        self.assertEqual(soonest(works, -6), [START, C])
        self.assertEqual(soonest(works, -7), [START])
        self.assertEqual(soonest(works, 14), [START, C, CB, A, CA, AC, CBA, ACB])

    def test_without_cloths(self):
        for last, time in [(-1, 0), (0, 5), (1, GREAT)]:
            for bound in [None, 0, -GREAT]:
                self.assertEqual(soonest(Works(TWO, [], last, time), bound), [((0, 0), last, time)])

    def test_the_start_stands_there_for_each_bound(self):
        for given in small_ones(1, 2):
            for bound in [None, -GREAT * 100]:
                self.assertIn(((0,) * given.hues, given.last, given.time), soonest(given.works(), bound))

    def test_held_against_all_lists(self):
        for given in small_ones(3):
            works = given.works()
            for bound in given.bounds():
                told = soonest(works, bound)
                self.assertEqual(told, given.soonest(bound))
                self.assertEqual(told, sorted(told))
                self.assertEqual(len({row[:2] for row in told}), len(told))

    def test_kinds(self):
        for row in soonest(made(1, 5, 3).works(), None):
            self.assertEqual([type(part) for part in row], [tuple, int, int])
            self.assertEqual([type(part) for part in row[0]], [int] * 3)
            self.assertIs(type(row), tuple)


class PlanForTest(unittest.TestCase):
    def test_told_by_hand(self):
        works = BY_HAND.works()
        self.assertEqual(plan_for(works, 2), ("plan", ["a", "c", "b"]))
        told = plan_for(works, 1)
        self.assertEqual((type(told), told[0]), (tuple, "shut"))
        self.assertIs(bars(works, 1, told[1]), True)

    def test_without_cloths(self):
        for bound in [None, 0, -GREAT]:
            self.assertEqual(plan_for(Works(TWO, [], 1, 9), bound), ("plan", []))

    def test_just_one_of_a_plan_and_a_table(self):
        for given in small_ones(4):
            works = given.works()
            for bound in given.bounds():
                word, told = plan_for(works, bound)
                if any(given.keeps(order, bound) for order in given.orders()):
                    self.assertEqual(word, "plan")
                    self.assertTrue(is_plan(works, told) and given.keeps(told, bound) and keeps(works, told, bound))
                    self.assertIs(type(told), list)
                    self.assertIs(bars(works, bound, soonest(works, bound)), False)
                else:
                    self.assertEqual(word, "shut")
                    self.assertTrue(given.bars(bound, told))
                    self.assertIs(bars(works, bound, told), True)
                    self.assertIs(bars(works, bound, told, None), True)

    def test_ten_cloths(self):
        for hues in (1, 2, 3, 4):
            for most in (5, GREAT):
                given = made(9, 10, hues, most)
                works = given.works()
                low, high = -100 * GREAT, 100 * GREAT
                while high - low > 1:
                    bound = (low + high) // 2
                    low, high = (low, bound) if plan_for(works, bound)[0] == "plan" else (bound, high)
                plan, table = plan_for(works, high)[1], plan_for(works, low)[1]
                self.assertEqual((sorted(plan), given.late(plan)), (given.names, high))
                self.assertTrue(bars(works, low, table) and given.bars(low, table))


class BarsTest(unittest.TestCase):
    def setUp(self):
        self.works = BY_HAND.works()

    def test_a_row_left_out(self):
        table = soonest(self.works, 1)
        self.assertIs(bars(self.works, 1, table), True)
        for place in range(len(table)):
            self.assertIs(bars(self.works, 1, table[:place] + table[place + 1:]), False, table[place])
        self.assertIs(bars(self.works, 1, []), False)
        self.assertIs(bars(Works(TWO, []), None, []), False)

    def test_a_row_twice(self):
        table = soonest(self.works, 1)
        for row in table:
            self.assertIs(bars(self.works, 1, table + [row]), False)
            self.assertIs(bars(self.works, 1, [row] + table), False)
            self.assertIs(bars(self.works, 1, table + [row[:2] + (row[2] + 1,)]), False)
            self.assertIs(bars(self.works, 1, table + [row[:2] + (row[2] - 1,)]), False)

    def test_a_row_of_a_later_time(self):
        table = soonest(self.works, 1)
        for place, row in enumerate(table):
            later = changed(table, place, row[:2] + (row[2] + 1,))
            self.assertIs(bars(self.works, 1, later), False, row)

    def test_a_row_of_a_sooner_time(self):
        # From the start c is done with lateness -6, a with -4: sooner rows may be there, but bar less.
        self.assertIs(bars(self.works, -7, [((0, 0), -1, 0)]), True)
        self.assertIs(bars(self.works, -8, [((0, 0), -1, -1)]), True)
        self.assertIs(bars(self.works, -7, [((0, 0), -1, -1)]), False)
        self.assertIs(bars(self.works, -8, [((0, 0), -1, -2)]), False)

    def test_in_any_order(self):
        table = soonest(self.works, 1)
        chance = random.Random(4)
        for turn in range(20):
            chance.shuffle(table)
            self.assertIs(bars(self.works, 1, table), True)

    def test_counts_out_of_reach(self):
        table = soonest(self.works, 1)
        for counts in [(-1, 0), (0, -1), (2, 0), (0, 3), (2, 2), (1, 3), (2, 3), (GREAT, 0), (0, -GREAT)]:
            for last in (-1, 0, 1):
                for time in (0, GREAT):
                    self.assertIs(bars(self.works, 1, table + [(counts, last, time)]), False, counts)

    def test_lasts(self):
        table = soonest(self.works, 1)
        for last in [-2, 2, 3, GREAT, -GREAT]:
            for time in (0, 1000):
                self.assertIs(bars(self.works, 1, table + [((1, 0), last, time)]), False)
                self.assertIs(bars(self.works, 1, table + [((1, 2), last, time)], -5), False)
        # From a fresh vat a is done 1 + 5 later, c 2 + 7, b 2 + 6.
        self.assertIs(bars(self.works, 1, table + [((1, 1), -1, 14)]), True)
        self.assertIs(bars(self.works, 1, table + [((1, 1), -1, 13)]), False)
        self.assertIs(bars(self.works, 1, table + [((0, 2), -1, 6)]), True)
        self.assertIs(bars(self.works, 1, table + [((0, 2), -1, 5)]), False)

    def test_rows_that_nothing_leads_to(self):
        table = soonest(self.works, 1)
        self.assertIs(bars(self.works, 1, table + [((1, 1), 0, 13)]), True)
        self.assertIs(bars(self.works, 1, table + [((1, 1), 0, 12)]), False)
        self.assertIs(bars(self.works, 1, table + [((0, 0), 0, 1000)]), True)
        # From the second hue c would end seven later, and the row of it says 9.
        self.assertIs(bars(self.works, 1, table + [((0, 0), 1, 2)]), True)
        self.assertIs(bars(self.works, 1, table + [((0, 0), 1, 1)]), False)
        self.assertIs(bars(self.works, 1, table + [((1, 2), 0, 1000)]), False)
        self.assertIs(bars(self.works, 1, table + [((1, 2), 0, 1000)], 1000), True)
        self.assertIs(bars(self.works, 1, table + [((1, 2), 0, 1000)], 1001), False)

    def test_the_start(self):
        works = Works(TWO, [("a", 0, 5, 10, 1)], 1, 4)
        after = ((1, 0), 0, 13)
        self.assertIs(bars(works, None, [((0, 0), 1, 4), after], 13), True)
        self.assertIs(bars(works, None, [((0, 0), 1, 5), after], 13), False)
        self.assertIs(bars(works, None, [((0, 0), 0, 4), ((1, 0), 0, 9)], 9), False)
        self.assertIs(bars(works, None, [((0, 0), -1, 4), ((1, 0), 0, 10)], 10), False)
        self.assertIs(bars(works, None, [((0, 0), 1, 3), ((1, 0), 0, 12)], 12), True)
        self.assertIs(bars(works, 3, [((0, 0), 1, 4), after]), False)
        self.assertIs(bars(works, 2, [((0, 0), 1, 4)]), True)

    def test_an_end(self):
        for bound in (None, 14, 2):
            table = soonest(self.works, bound)
            for end, said in [(None, False), (23, False), (22, True), (21, True), (-GREAT, True), (GREAT, False)]:
                self.assertIs(bars(self.works, bound, table, end), said, (bound, end))
        self.assertIs(bars(self.works, 1, soonest(self.works, 1), GREAT), True)

    def test_without_cloths(self):
        works = Works(TWO, [], 1, 9)
        for bound in (None, 0, -GREAT):
            for row, end, said in [(((0, 0), 1, 9), None, False), (((0, 0), 1, 9), 9, True), (((0, 0), 1, 9), 10, False),
                                   (((0, 0), 1, 8), 8, True), (((0, 0), 1, 8), 9, False), (((0, 0), 1, 10), 9, False),
                                   (((0, 0), -1, 9), 9, False), (((1, 0), 1, 9), 9, False)]:
                self.assertIs(bars(works, bound, [row], end), said, (row, end))

    def test_the_bound_of_another_works(self):
        for given in small_ones(1):
            other = Given(given.rinses, [cloth[:2] + (cloth[2] + 1,) + cloth[3:] for cloth in given.cloths],
                          given.last, given.time)
            for bound in given.bounds():
                table = soonest(given.works(), bound)
                self.assertIs(bars(other.works(), bound, table), other.bars(bound, table))


class ChangedTablesTest(unittest.TestCase):
    """Tables by chance, held against point 42 clause by clause, and against all orders."""

    def test_by_chance(self):
        chance = random.Random(42)
        said = {True: 0, False: 0}
        for given in small_ones(2):
            works = given.works()
            plans = [(given.late(order), given.end(order)) for order in given.orders()]
            for bound in given.bounds():
                for end in [None, min(end for late, end in plans), max(end for late, end in plans)]:
                    table = soonest(works, bound)
                    for turn in range(3):
                        answer = bars(works, bound, table, end)
                        self.assertIs(answer, given.bars(bound, table, end), (given.cloths, bound, table, end))
                        said[answer] += 1
                        if answer:
                            kept = [ended for late, ended in plans if bound is None or late is None or late <= bound]
                            self.assertTrue(all(end is not None and ended >= end for ended in kept))
                        table = changed_by_chance(chance, given, table) if table else table
        self.assertGreater(min(said.values()), 300)


class OwnListsTest(unittest.TestCase):
    def test_told_lists_are_the_asker_s_own(self):
        check_own_answers(self, [soonest, plan_for])

    def test_tables_handed_in_stay(self):
        works = BY_HAND.works()
        check_stays(self, lambda table: bars(works, 1, table, 5), [soonest(works, 1)[::-1], soonest(works, None)[3:], []])

    def test_the_same_for_like_works(self):
        check_like_works(self, [soonest, plan_for])


if __name__ == "__main__":
    unittest.main()
