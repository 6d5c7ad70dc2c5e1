"""Points 2, 6, 12, 70 and 71: priced rows, what holds up a cost, the least cost with a plan and prices."""

import random
import unittest

from rinsework.plans import cost_of, is_plan
from rinsework.prices import cheapest, holds_up
from rinsework.works import Works
from tests.made import (GREAT, Given, changed, changed_by_chance, check_like_works, check_own_answers, check_stays,
                        made, small_ones)

TWO = [[0, 3], [4, 0], [1, 2]]
# The steep row of the second hue is c, b; the cost of a, c, b is 82, that of c, a, b and of c, b, a is 90.
BY_HAND = Given(TWO, [("a", 0, 5, 10, 2), ("b", 1, 6, 20, 1), ("c", 1, 7, 15, 3)])
PRICES = [((0, 0), -1, 82), ((0, 1), 1, 36), ((0, 2), 1, 18), ((1, 0), 0, 46), ((1, 1), 0, 9), ((1, 1), 1, 6),
          ((1, 2), 0, 0), ((1, 2), 1, 0)]


class CheapestTest(unittest.TestCase):
    def test_told_by_hand(self):
        cost, plan, prices = cheapest(BY_HAND.works())
        self.assertEqual((cost, plan), (82, ["a", "c", "b"]))
        self.assertIs(holds_up(BY_HAND.works(), 82, prices), True)

    def test_a_start(self):
        # From the first hue a, c, b end at 5, 15, 21, from the second c, b, a at 7, 13, 22, and all of it seven later.
        self.assertEqual(cheapest(Works(TWO, BY_HAND.cloths, 0, 7))[:2], (10 + 45 + 21 + 42, ["a", "c", "b"]))
        self.assertEqual(cheapest(Works(TWO, BY_HAND.cloths, 1, 7))[0], 21 + 13 + 44 + 42)
        self.assertEqual(cheapest(Works(TWO, BY_HAND.cloths, -1, 7))[:2], (82 + 42, ["a", "c", "b"]))

    def test_without_cloths(self):
        for last, time in [(-1, 0), (0, 5), (1, GREAT)]:
            works = Works(TWO, [], last, time)
            cost, plan, prices = cheapest(works)
            self.assertEqual((cost, plan), (0, []))
            self.assertIs(holds_up(works, 0, prices), True)
            self.assertIs(holds_up(works, 1, prices), False)

    def test_alike_steepness(self):
        given = Given([[0], [0]], [("a", 0, 2, 0, 4), ("b", 0, 1, 0, 2), ("c", 0, 3, 0, 6)], 0, 1)
        for order in given.orders():
            self.assertEqual(cheapest(given.works())[0], given.cost(order))

    def test_the_least_rinses_are_reckoned_with(self):
        # From the fresh vat to 0 the way over 1 takes 2, and from 1 to 0 the straight way 1.
        works = Works([[0, 9], [1, 0], [50, 1]], [("a", 0, 3, 0, 2)])
        self.assertEqual(cheapest(works)[:2], (10, ["a"]))

    def held(self, given):
        works = given.works()
        told = cheapest(works)
        cost, plan, prices = told
        self.assertEqual([type(part) for part in [told, cost, plan, prices]], [tuple, int, list, list])
        self.assertEqual(cost, min(given.cost(order) for order in given.orders()))
        self.assertEqual((sorted(plan), given.cost(plan), cost_of(works, plan)), (given.names, cost, cost))
        self.assertTrue(given.holds_up(cost, prices))
        self.assertIs(holds_up(works, cost, prices), True)
        self.assertIs(holds_up(works, cost - 1, prices), True)
        self.assertIs(holds_up(works, cost + 1, prices), False)

    def test_held_against_all_orders(self):
        for given in small_ones(4):
            self.held(given)

    def test_seven_cloths(self):
        for given in [made(2, 7, 3, 9), made(3, 7, 4, GREAT)]:
            self.held(given)

    def test_ten_cloths(self):
        for hues in (1, 2, 3, 4):
            for most in (2, 9, GREAT):
                works = made(9, 10, hues, most).works()
                cost, plan, prices = cheapest(works)
                self.assertTrue(is_plan(works, plan))
                self.assertEqual(cost_of(works, plan), cost)
                self.assertIs(holds_up(works, cost, prices), True)
                self.assertIs(holds_up(works, cost + 1, prices), False)

    def test_kinds_of_rows(self):
        for row in cheapest(made(1, 5, 3).works())[2]:
            self.assertEqual([type(row)] + [type(part) for part in row], [tuple, tuple, int, int])
            self.assertEqual([type(part) for part in row[0]], [int] * 3)


class HoldsUpTest(unittest.TestCase):
    def setUp(self):
        self.works = BY_HAND.works()

    def holds(self, said, prices, cost=82):
        self.assertIs(holds_up(self.works, cost, prices), said, (cost, prices))

    def test_costs(self):
        for cost, said in [(82, True), (83, False), (81, True), (0, True), (-GREAT, True), (GREAT * GREAT, False)]:
            self.holds(said, PRICES, cost)

    def test_in_any_order(self):
        chance = random.Random(7)
        prices = list(PRICES)
        for turn in range(20):
            chance.shuffle(prices)
            self.holds(True, prices)

    def test_a_row_left_out(self):
        for place in range(len(PRICES)):
            for cost in (82, -GREAT):
                self.holds(False, PRICES[:place] + PRICES[place + 1:], cost)
        self.holds(False, [])
        self.holds(False, [], -GREAT)

    def test_a_row_twice(self):
        for counts, last, price in PRICES:
            for other in (price, price - 1, price + 1, -GREAT):
                for prices in [PRICES + [(counts, last, other)], [(counts, last, other)] + PRICES]:
                    self.holds(False, prices)
                    self.holds(False, prices, 5)

    def test_counts_out_of_reach(self):
        for counts in [(-1, 0), (0, -1), (2, 0), (0, 3), (2, 2), (1, 3), (2, 3), (GREAT, 0), (0, -GREAT)]:
            for last in (-1, 0, 1):
                for price in (0, -GREAT):
                    self.holds(False, PRICES + [(counts, last, price)])

    def test_lasts(self):
        for last in [-2, 2, 3, GREAT, -GREAT]:
            for counts in [(0, 0), (1, 1), (1, 2)]:
                self.holds(False, PRICES + [(counts, last, -GREAT)])

    def test_a_price_one_greater(self):
        for place, (counts, last, price) in enumerate(PRICES):
            for cost in (82, 5):
                self.holds(False, changed(PRICES, place, (counts, last, price + 1)), cost)

    def test_prices_that_are_less(self):
        self.holds(False, changed(PRICES, 0, ((0, 0), -1, 81)))
        self.holds(True, changed(PRICES, 0, ((0, 0), -1, 81)), 81)
        # The step to c costs 54, so behind it 28 are enough.
        self.holds(True, changed(PRICES, 1, ((0, 1), 1, 28)))
        self.holds(False, changed(PRICES, 1, ((0, 1), 1, 27)))
        self.holds(True, changed(changed(PRICES, 1, ((0, 1), 1, 27)), 0, ((0, 0), -1, 81)), 81)

    def test_rows_with_all_cloths_done(self):
        for place in (6, 7):
            self.holds(False, changed(PRICES, place, PRICES[place][:2] + (1,)))
        # No tight step leads to the end in the first hue by itself.
        self.holds(True, PRICES + [((1, 2), -1, 0)])
        self.holds(True, PRICES + [((1, 2), -1, -GREAT)])
        self.holds(False, PRICES + [((1, 2), -1, 1)])

    def test_rows_more(self):
        # From the first hue a would cost 5 * 6 and c 10 * 6; from a fresh vat a costs 6 * 3 and b 8 * 3.
        for row, most in [(((0, 0), 0), 76), (((0, 1), -1), 27)]:
            for price, said in [(most, True), (most + 1, False), (most - 1, True), (-GREAT, True)]:
                self.holds(said, PRICES + [row + (price,)])

    def test_the_start_s_hue(self):
        works = Works(TWO, BY_HAND.cloths, 1)
        self.assertIs(holds_up(works, 82, PRICES), False)
        self.assertIs(holds_up(works, -GREAT, PRICES), False)
        # From the second hue a costs 9 * 6 and c 7 * 6, c, b, a 78 in all.
        self.assertIs(holds_up(works, 78, PRICES + [((0, 0), 1, 78)]), True)
        self.assertIs(holds_up(works, 78, PRICES + [((0, 0), 1, 79)]), False)
        self.assertIs(holds_up(works, 79, PRICES + [((0, 0), 1, 78)]), False)

    def test_the_start_s_time(self):
        works = Works(TWO, BY_HAND.cloths, -1, 7)
        for cost, said in [(82 + 42, True), (82 + 43, False), (82, True)]:
            self.assertIs(holds_up(works, cost, PRICES), said)
        self.assertIs(holds_up(works, 82 + 42, changed(PRICES, 0, ((0, 0), -1, 81))), False)
        self.assertIs(holds_up(works, 82 + 41, changed(PRICES, 0, ((0, 0), -1, 81))), True)

    def test_without_cloths(self):
        works = Works(TWO, [], 1, 9)
        for rows, cost, said in [([((0, 0), 1, 0)], 0, True), ([((0, 0), 1, 0)], 1, False), ([((0, 0), 1, 0)], -1, True),
                                 ([((0, 0), 1, -1)], 0, False), ([((0, 0), 1, -1)], -1, True),
                                 ([((0, 0), 1, 1)], 1, False), ([((0, 0), 1, 1)], 0, False), ([], 0, False),
                                 ([((0, 0), -1, 0)], 0, False), ([((0, 0), 1, 0), ((0, 0), 0, 0)], 0, True),
                                 ([((0, 0), 1, 0), ((0, 0), 0, 1)], 0, False)]:
            self.assertIs(holds_up(works, cost, rows), said, (rows, cost))

    def test_by_chance(self):
        # Held against point 70 clause by clause, and against all orders.
        chance = random.Random(70)
        said = {True: 0, False: 0}
        for given in small_ones(3, 4):
            works = given.works()
            cheap = min(given.cost(order) for order in given.orders())
            for cost in [cheap, cheap - 1, cheap + 1]:
                prices = cheapest(works)[2]
                for turn in range(8):
                    answer = holds_up(works, cost, prices)
                    self.assertIs(answer, given.holds_up(cost, prices), (given.cloths, cost, prices))
                    self.assertFalse(answer and cost > cheap)
                    said[answer] += 1
                    prices = changed_by_chance(chance, given, prices) if prices else prices
        self.assertGreater(min(said.values()), 300)


class OwnListsTest(unittest.TestCase):
    def test_told_lists_are_the_asker_s_own(self):
        check_own_answers(self, [lambda works, bound: cheapest(works)])

    def test_prices_handed_in_stay(self):
        works = BY_HAND.works()
        check_stays(self, lambda prices: holds_up(works, 82, prices), [PRICES[::-1], PRICES[3:], []])

    def test_the_same_for_like_works(self):
        check_like_works(self, [lambda works, bound: cheapest(works)])


if __name__ == "__main__":
    unittest.main()
