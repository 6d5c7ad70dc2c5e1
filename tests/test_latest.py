"""Points 2, 44 and 45: the latest table, safe cloths."""

import itertools
import unittest

from rinsework.latest import latest, safe
from rinsework.plans import keeps
from rinsework.tables import plan_for, soonest
from rinsework.works import Works
from tests.made import GREAT, Given, check_own_lists, is_in_order, made, small_ones, told_of

TWO = [[0, 3], [4, 0], [1, 2]]
BY_HAND = Given(TWO, [("a", 0, 5, 10, 1), ("b", 1, 6, 20, 1), ("c", 1, 7, 15, 1)])


# By other words than the program's: all pairs of counts and last, then those that point 44 names.
def expected_states(given):
    full = [len(row) for row in given.due_rows()]
    found = []
    for counts in itertools.product(*[range(many + 1) for many in full]):
        for last in range(-1, given.hues):
            if last == given.last if sum(counts) == 0 else last >= 0 and counts[last] > 0:
                found.append((counts, last))
    return sorted(found)


def ends_in_time(rest, order, bound, end):
    return rest.keeps(order, bound) and (end is None or rest.end(order) <= end)


def does(given, counts, last, time, bound, end):
    """Whether all that is left can be done from this state at this time, in whatever order."""
    rest = given.rest(counts, last, time)
    return any(ends_in_time(rest, order, bound, end) for order in rest.orders())


class LatestTest(unittest.TestCase):
    def test_told_by_hand(self):
        # The last cloths are a (10, five long) and b (20, six long), ahead of b stands c (15, seven long).
        told = latest(BY_HAND.works(), 2)
        self.assertEqual(told, [((0, 0), -1, 0), ((0, 1), 1, 3), ((0, 2), 1, 3), ((1, 0), 0, 6), ((1, 1), 0, 13),
                                ((1, 1), 1, 16), ((1, 2), 0, None), ((1, 2), 1, None)])
        self.assertEqual(latest(BY_HAND.works(), 1)[0], ((0, 0), -1, -1))
        told = latest(BY_HAND.works(), 2, 20)
        self.assertEqual(told, [((0, 0), -1, -2), ((0, 1), 1, 2), ((0, 2), 1, 3), ((1, 0), 0, 4), ((1, 1), 0, 11),
                                ((1, 1), 1, 14), ((1, 2), 0, 20), ((1, 2), 1, 20)])
        told = latest(BY_HAND.works(), None, 100)
        self.assertEqual(told, [((0, 0), -1, 78), ((0, 1), 1, 85), ((0, 2), 1, 91), ((1, 0), 0, 84), ((1, 1), 0, 91),
                                ((1, 1), 1, 94), ((1, 2), 0, 100), ((1, 2), 1, 100)])

    def test_times_below_nought(self):
        works = Works([[0], [3]], [("a", 0, 5, -10, 1), ("b", 0, 4, 0, 1)], None, 7)
        self.assertEqual(latest(works, 0), [((0,), -1, -18), ((1,), 0, -4), ((2,), 0, None)])
        self.assertEqual(latest(works, 0, -50), [((0,), -1, -62), ((1,), 0, -54), ((2,), 0, -50)])
        self.assertEqual(latest(works, -GREAT)[0], ((0,), -1, -18 - GREAT))

    def test_none_where_each_time_does(self):
        for given in small_ones(1):
            works = given.works()
            self.assertEqual({time for counts, last, time in latest(works, None)}, {None})
            full = tuple(len(row) for row in given.due_rows())
            for bound in given.bounds()[:-1]:
                for counts, last, time in latest(works, bound):
                    self.assertEqual(time is None, counts == full)
            for end in (-5, 0, GREAT):
                for bound in given.bounds():
                    for counts, last, time in latest(works, bound, end):
                        self.assertIs(type(time), int)
                        if counts == full:
                            self.assertEqual(time, end)

    def test_without_cloths(self):
        for last, time in [(-1, 0), (1, 5)]:
            works = Works(TWO, [], last, time)
            for bound in (None, 0, -9):
                self.assertEqual(latest(works, bound), [((0, 0), last, None)])
                self.assertEqual(latest(works, bound, None), [((0, 0), last, None)])
                self.assertEqual(latest(works, bound, 3), [((0, 0), last, 3)])
                self.assertEqual(latest(works, bound, -3), [((0, 0), last, -3)])

    def test_its_states_and_their_order(self):
        for given in small_ones(1) + [made(3, 10, hues) for hues in (1, 2, 3, 4)]:
            for bound, end in [(None, None), (0, None), (None, 5), (3, 3)]:
                told = latest(given.works(), bound, end)
                self.assertEqual([row[:2] for row in told], expected_states(given))
                self.assertEqual({(type(told), type(row), type(row[0])) for row in told}, {(list, tuple, tuple)})

    def test_whatever_the_start_s_time_is(self):
        for given in small_ones(1, 4):
            later = Given(given.rinses, given.cloths, given.last, given.time + 1000)
            for bound in (None, -3, 8):
                for end in (None, 30):
                    self.assertEqual(latest(given.works(), bound, end), latest(later.works(), bound, end))

    def held(self, given, bound, end):
        for counts, last, time in latest(given.works(), bound, end):
            if time is None:
                for some in (-GREAT, 0, GREAT * 1000):
                    self.assertTrue(does(given, counts, last, some, bound, end))
            else:
                self.assertTrue(does(given, counts, last, time, bound, end))
                self.assertFalse(does(given, counts, last, time + 1, bound, end))

    def test_held_against_all_orders_of_the_rest(self):
        for given in small_ones(2, 4) + [made(7, 5, hues, most) for hues in (1, 2, 3) for most in (5, GREAT)]:
            for bound in given.bounds()[::3] + [None]:
                for end in [None, given.end(given.names), given.end(given.names) - 3]:
                    self.held(given, bound, end)

    def test_in_due_order(self):
        for given in small_ones(1, 4):
            for bound in given.bounds()[:3]:
                for counts, last, time in latest(given.works(), bound):
                    if time is not None:
                        rest = given.rest(counts, last, time)
                        orders = [order for order in rest.orders() if is_in_order(rest.due_rows(), order)]
                        self.assertTrue(any(rest.keeps(order, bound) for order in orders))

    def test_states_on_the_way_of_a_plan(self):
        for given in small_ones(2):
            works = given.works()
            plans = [order for order in given.orders() if is_in_order(given.due_rows(), order)]
            for bound in given.bounds():
                ways = {given.state(plan[:cut]) for plan in plans if given.keeps(plan, bound)
                        for cut in range(len(plan) + 1)}
                late = {row[:2]: row[2] for row in latest(works, bound)}
                told = {(counts, last) for counts, last, time in soonest(works, bound)
                        if late[counts, last] is None or time <= late[counts, last]}
                self.assertEqual(told, ways)


class SafeTest(unittest.TestCase):
    def test_told_by_hand(self):
        works = BY_HAND.works()
        self.assertEqual(safe(works, 1), [])
        self.assertEqual(safe(works, 2), ["a"])
        self.assertEqual(safe(works, 8), ["a", "c"])
        self.assertEqual(safe(works, 14), ["a", "b", "c"])
        self.assertEqual(safe(works, None), ["a", "b", "c"])

    def test_one_that_is_not_the_first_of_its_due_row(self):
        works = Works([[0], [0]], [("a", 0, 1, 100, 1), ("b", 0, 1, 50, 1), ("c", 0, 9, 10, 1)])
        self.assertEqual(works.due_row(0), ["c", "b", "a"])
        self.assertEqual(safe(works, 0), ["a", "b", "c"])
        self.assertEqual(safe(works, -1), ["c"])
        self.assertEqual(safe(works, -2), [])

    def test_one_that_would_break_the_bound_itself(self):
        # Once a is gone, b keeps the bound; but a is done first too late.
        works = Works([[0], [0]], [("a", 0, 5, 0, 1), ("b", 0, 1, 100, 1)])
        self.assertEqual(safe(works, 4), [])
        self.assertEqual(safe(works, 5), ["a"])
        self.assertEqual(safe(works, 6), ["a", "b"])

    def test_without_cloths(self):
        for bound in (None, 0, -GREAT):
            self.assertEqual(safe(Works(TWO, [], 0, 3), bound), [])

    def test_held_against_all_orders(self):
        for given in small_ones(4):
            works = given.works()
            for bound in given.bounds():
                firsts = sorted({order[0] for order in given.orders() if order and given.keeps(order, bound)})
                told = safe(works, bound)
                self.assertEqual(told, firsts)
                self.assertEqual(bool(told), bool(given.names) and plan_for(works, bound)[0] == "plan")
                if bound is None:
                    self.assertEqual(told, given.names)

    def test_whoever_does_only_safe_ones_keeps_the_bound(self):
        for given in [made(seed, 8, hues, most) for seed in range(2) for hues in (1, 2, 4) for most in (4, 40, GREAT)]:
            works = given.works()
            bound = given.late(plan_for(works, None)[1])
            for pick in (0, -1):
                left, names = works, []
                while left.names():
                    name = safe(left, bound)[pick]
                    left, names = left.begun([name]), names + [name]
                self.assertTrue(keeps(works, names, bound))
                self.assertEqual(sorted(names), given.names)


class OwnListsTest(unittest.TestCase):
    def test_told_lists_are_the_asker_s_own(self):
        for given in small_ones(1, 4):
            works = given.works()
            ahead = told_of(works)
            for bound in given.bounds():
                check_own_lists(self, lambda: latest(works, bound))
                check_own_lists(self, lambda: latest(works, bound, 9))
                check_own_lists(self, lambda: safe(works, bound))
            self.assertEqual(told_of(works), ahead)


if __name__ == "__main__":
    unittest.main()
