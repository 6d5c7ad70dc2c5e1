"""Points 2, 6, 30 and 31: moves that are walked, moves to due order and to steep order."""

import itertools
import unittest

from rinsework.errors import NoMove, NoPlan, RinseError
from rinsework.moves import in_dues, in_steep, to_dues, to_steep, walked
from rinsework.works import Works
from tests.made import GREAT, NO_NAMES, Given, check_own_lists, is_in_order, made, small_ones, told_of

TWO = [[0, 3], [4, 0], [1, 2]]


# By other words than the program's: the name is taken out, then stands at its place.
def stepped(names, move):
    left = list(names)
    left.insert(move[1], left.pop(move[0]))
    return left


class WalkedTest(unittest.TestCase):
    def test_told_by_hand(self):
        names = ["a", "b", "c", "d"]
        self.assertEqual(walked(names, [(0, 2)]), ["b", "c", "a", "d"])
        self.assertEqual(walked(names, [(2, 0)]), ["c", "a", "b", "d"])
        self.assertEqual(walked(names, [(0, 3)]), ["b", "c", "d", "a"])
        self.assertEqual(walked(names, [(3, 0)]), ["d", "a", "b", "c"])
        self.assertEqual(walked(names, [(1, 2)]), ["a", "c", "b", "d"])
        self.assertEqual(walked(names, [(0, 3), (0, 1), (2, 0)]), ["d", "c", "b", "a"])

    def test_no_moves(self):
        for names in [[], ["a"], ["b", "a"]]:
            told = walked(names, [])
            self.assertEqual(told, names)
            self.assertIsNot(told, names)

    def test_the_same_place(self):
        names = ["a", "b", "c"]
        for place in range(3):
            self.assertEqual(walked(names, [(place, place)] * 3), names)

    def test_alike_names(self):
        self.assertEqual(walked(["a", "b", "a"], [(0, 1)]), ["b", "a", "a"])
        self.assertEqual(walked(["a", "b", "a"], [(2, 1)]), ["a", "a", "b"])
        self.assertEqual(walked(["a", "a", "b", "a"], [(2, 0), (3, 1)]), ["b", "a", "a", "a"])
        self.assertEqual(walked(["q"] * 12, [(0, 11), (11, 0)]), ["q"] * 12)

    def test_twelve_names(self):
        names = list("abcdefghijkl")
        for move in itertools.product(range(12), repeat=2):
            told = walked(names, [move])
            self.assertEqual(told, stepped(names, move))
            self.assertEqual(told[move[1]], names[move[0]])
            self.assertEqual([name for name in told if name != names[move[0]]],
                             [name for name in names if name != names[move[0]]])

    def test_one_behind_the_other(self):
        moves = list(itertools.product(range(4), repeat=2))
        for one, other, third in itertools.product(moves, moves, moves[::5]):
            names = ["a", "b", "c", "d"]
            expected = stepped(stepped(stepped(names, one), other), third)
            self.assertEqual(walked(names, [one, other, third]), expected)

    def test_no_move(self):
        for many in range(5):
            names = list("abcd")[:many]
            for bad in [-1, -2, many, many + 1, -many - 1, 100, GREAT, -GREAT]:
                for move in [(bad, 0), (0, bad), (bad, bad), (bad, many - 1), (many - 1, bad)]:
                    good = [(0, many - 1)] * (7 if many else 0)
                    for ahead in range(len(good) + 1):
                        moves = good[:ahead] + [move] + good[ahead:] + [(bad, bad)]
                        with self.assertRaises(RinseError) as caught:
                            walked(names, moves)
                        self.assertIs(type(caught.exception), NoMove)
                        self.assertEqual(caught.exception.at, ahead)
            self.assertEqual(names, list("abcd")[:many])

    def test_no_names(self):
        self.assertEqual(walked([], []), [])
        with self.assertRaises(NoMove) as caught:
            walked([], [(0, 0), (0, 0)])
        self.assertEqual(caught.exception.at, 0)

    def test_own_lists(self):
        names, moves = ["a", "b", "c"], [(0, 2), (1, 0)]
        check_own_lists(self, lambda: walked(names, moves))
        self.assertEqual((names, moves), (["a", "b", "c"], [(0, 2), (1, 0)]))


class OrdersTest(unittest.TestCase):
    def test_told_by_hand(self):
        works = Works(TWO, [("a", 0, 9, 1, 1), ("b", 0, 1, 2, 1), ("c", 1, 1, 0, 1), ("d", 0, 1, 2, 1)])
        self.assertIs(in_dues(works, ["a", "c", "b", "d"]), True)
        self.assertIs(in_dues(works, ["a", "d", "c", "b"]), False)
        self.assertIs(in_dues(works, ["b", "a"]), False)
        self.assertIs(in_steep(works, ["a", "c", "b", "d"]), False)
        self.assertIs(in_steep(works, ["b", "c", "d", "a"]), True)
        self.assertIs(in_steep(works, ["d", "b"]), False)

    def test_held_against_the_rows(self):
        for given in small_ones(2, 4) + [made(seed, 5, hues, 4) for seed in range(3) for hues in (1, 2, 3)]:
            works = given.works()
            for names in given.lists():
                self.assertIs(in_dues(works, names), is_in_order(given.due_rows(), names))
                self.assertIs(in_steep(works, names), is_in_order(given.steep_rows(), names))

    def test_no_plan(self):
        works = Works(TWO, [("a", 0, 9, 1, 1), ("b", 1, 1, 2, 1)])
        wrong = [["a", "a"], ["b", "a", "b"], ["c"], ["a", "c"]]
        wrong += [ahead + [thing] for thing in NO_NAMES if thing != "a" for ahead in ([], ["a"], ["b", "a"])]
        for names in wrong:
            for ask in [in_dues, in_steep, to_dues, to_steep]:
                with self.assertRaises(RinseError) as caught:
                    ask(works, names)
                self.assertIs(type(caught.exception), NoPlan)


class LedTest(unittest.TestCase):
    """Each list is led by its moves; each step is looked at."""

    def led(self, given, names, moves):
        self.assertIs(type(moves), list)
        self.assertLessEqual(len(moves), 100)
        steps = [list(names)]
        for move in moves:
            self.assertEqual((type(move), len(move)), (tuple, 2))
            self.assertTrue(all(type(place) is int and 0 <= place < len(names) for place in move))
            steps.append(stepped(steps[-1], move))
        self.assertEqual(walked(names, moves), steps[-1])
        return list(zip(steps, steps[1:])), steps[-1]

    def to_dues(self, given, works, names):
        moves = to_dues(works, names)
        pairs, last = self.led(given, names, moves)
        for ahead, behind in pairs:
            self.assertLessEqual(given.late(behind), given.late(ahead))
            self.assertLessEqual(given.end(behind), given.end(ahead))
        self.assertTrue(is_in_order(given.due_rows(), last))
        if is_in_order(given.due_rows(), names):
            self.assertEqual(moves, [])

    def to_steep(self, given, works, names):
        moves = to_steep(works, names)
        pairs, last = self.led(given, names, moves)
        for ahead, behind in pairs:
            self.assertLessEqual(given.cost(behind), given.cost(ahead))
        self.assertTrue(is_in_order(given.steep_rows(), last))
        if is_in_order(given.steep_rows(), names):
            self.assertEqual(moves, [])

    def test_every_list_of_up_to_four(self):
        for given in small_ones(2, 4):
            works = given.works()
            for names in given.lists():
                self.to_dues(given, works, names)
                self.to_steep(given, works, names)

    def test_every_order_of_five(self):
        for given in [made(seed, 5, hues, most) for seed in range(2) for hues in (1, 2, 3) for most in (3, 20, GREAT)]:
            works = given.works()
            for names in given.orders():
                self.to_dues(given, works, names)
                self.to_steep(given, works, names)

    def test_where_the_one_behind_must_come_ahead(self):
        # A light long cloth stands between: to move the one ahead behind it costs more than to fetch the other.
        given = Given([[0, 0], [0, 0], [0, 0]], [("a", 0, 2, 0, 50), ("b", 1, 100, 0, 1), ("c", 0, 1, 0, 50)])
        self.assertEqual(to_steep(given.works(), ["a", "b", "c"]), [(2, 0)])
        given = Given([[0, 0], [0, 0], [0, 0]], [("a", 0, 50, 0, 1), ("b", 1, 1, 0, 100), ("c", 0, 40, 0, 1)])
        self.assertEqual(to_steep(given.works(), ["a", "b", "c"]), [(0, 2)])

    def test_many_cloths_the_other_way_round(self):
        for many in (9, 10):
            for hues in (1, 2, 4):
                for most in (2, 30, GREAT):
                    given = made(5, many, hues, most)
                    works = given.works()
                    turned = [name for row in given.due_rows() for name in reversed(row)]
                    self.to_dues(given, works, turned)
                    mixed = sorted(given.names, key=lambda name: (-given.by_name[name][3], name))
                    self.to_dues(given, works, mixed)
                    turned = [name for row in given.steep_rows() for name in reversed(row)]
                    self.to_steep(given, works, turned)
                    self.to_steep(given, works, mixed)

    def test_own_lists(self):
        given = made(3, 5, 2)
        works = given.works()
        ahead = told_of(works)
        for names in given.orders()[::7]:
            handed = list(names)
            check_own_lists(self, lambda: to_dues(works, handed))
            check_own_lists(self, lambda: to_steep(works, handed))
            self.assertEqual(handed, names)
        self.assertEqual(told_of(works), ahead)


if __name__ == "__main__":
    unittest.main()
