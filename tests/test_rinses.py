"""Points 2, 3, 10, 11 and 12: rinses, the sums of ways, the least rinses."""

import copy
import itertools
import random
import unittest

from rinsework.errors import NoRinses, RinseError
from rinsework.rinses import least_rinses, least_way, way_sum

GREAT = 10 ** 30 - 1
ONE = [[0], [3]]
TWO = [[0, 3], [4, 0], [1, 2]]
THREE = [[0, 9, 2], [7, 0, 8], [1, 3, 0], [10, 20, 1]]
FOUR = [[5, 1, 9, 9], [9, 5, 1, 9], [9, 9, 5, 1], [1, 9, 9, 5], [0, 9, 9, 9]]


def places(rinses):
    hues = len(rinses) - 1
    return [(first, last) for first in range(-1, hues) for last in range(hues)]


# A sum by other words than the program's, so that the two can be held together.
def plain_sum(rinses, first, hues):
    return sum(rinses[f][g] for f, g in zip([first] + hues[:-1], hues))


def all_ways(rinses, last):
    hues = range(len(rinses) - 1)
    for length in range(len(rinses)):
        for stops in itertools.product(hues, repeat=length):
            yield list(stops) + [last]


def tried_least(rinses, first, last):
    return min(plain_sum(rinses, first, way) for way in all_ways(rinses, last))


def made_tables():
    chance = random.Random(20)
    tables = [ONE, TWO, THREE, FOUR]
    for hues in [1, 2, 3, 4]:
        for most in [0, 1, 3, 10, 100, GREAT]:
            for turn in range(3):
                tables.append([[chance.randint(0, most) for g in range(hues)] for f in range(hues + 1)])
    tables.append([[GREAT] * 4 for f in range(5)])
    tables.append([[0 if (f + g) % 2 else GREAT for g in range(4)] for f in range(5)])
    return tables


def two_hue_tables():
    for numbers in itertools.product([0, 1, 3], repeat=6):
        yield [list(numbers[0:2]), list(numbers[2:4]), list(numbers[4:6])]


class LeastRinsesTest(unittest.TestCase):
    def test_told_by_hand(self):
        self.assertEqual(least_rinses(ONE), [[0], [3]])
        self.assertEqual(least_rinses(TWO), [[0, 3], [4, 0], [1, 2]])
        self.assertEqual(least_rinses(THREE), [[0, 5, 2], [7, 0, 8], [1, 3, 0], [2, 4, 1]])
        self.assertEqual(least_rinses(FOUR), [[4, 1, 2, 3], [3, 4, 1, 2], [2, 3, 4, 1], [1, 2, 3, 4], [0, 1, 2, 3]])

    def test_from_a_hue_to_itself(self):
        self.assertEqual(least_rinses([[7], [3]]), [[7], [3]])
        self.assertEqual(least_rinses([[9, 1], [2, 9], [9, 9]]), [[3, 1], [2, 3], [9, 9]])
        self.assertEqual(least_rinses([[2, 1], [2, 9], [0, 0]]), [[2, 1], [2, 3], [0, 0]])

    def test_a_way_over_each_other_hue(self):
        self.assertEqual(least_rinses([[9, 1, 30], [30, 9, 1], [1, 30, 9], [30, 30, 30]])[0], [3, 1, 2])

    def test_fresh_vat_is_no_stop(self):
        # From a hue nothing leads to the fresh vat, however cheap its rinses are.
        self.assertEqual(least_rinses([[0, 50], [50, 0], [0, 0]]), [[0, 50], [50, 0], [0, 0]])

    def test_against_all_ways(self):
        for rinses in itertools.chain(made_tables(), two_hue_tables()):
            told = least_rinses(rinses)
            self.assertEqual([len(row) for row in told], [len(row) for row in rinses])
            for first, last in places(rinses):
                self.assertEqual(told[first][last], tried_least(rinses, first, last), (rinses, first, last))

    def test_triangle(self):
        for rinses in made_tables():
            told = least_rinses(rinses)
            for f, g in places(rinses):
                for h in range(len(rinses) - 1):
                    self.assertLessEqual(told[f][h], told[f][g] + told[g][h])

    def test_least_of_the_least(self):
        for rinses in itertools.chain(made_tables(), two_hue_tables()):
            told = least_rinses(rinses)
            self.assertEqual(least_rinses(told), told)

    def test_thirty_figures(self):
        self.assertEqual(least_rinses([[GREAT], [GREAT]]), [[GREAT], [GREAT]])
        self.assertEqual(least_rinses([[0, GREAT], [0, GREAT], [GREAT, GREAT]]), [[0, GREAT], [0, GREAT], [GREAT, GREAT]])
        half = 10 ** 29
        rinses = [[0, half, GREAT], [GREAT, 0, half + 1], [GREAT, GREAT, 0], [half, GREAT, GREAT]]
        self.assertEqual(least_rinses(rinses)[0], [0, half, 2 * half + 1])
        self.assertEqual(least_rinses(rinses)[-1], [half, 2 * half, 3 * half + 1])

    def test_numbers_are_whole(self):
        for rinses in made_tables():
            for row in least_rinses(rinses):
                for number in row:
                    self.assertIs(type(number), int)


class LeastWayTest(unittest.TestCase):
    def test_told_by_hand(self):
        # No rinse of these is 0, and no other way has the same sum.
        rinses = [[5, 9, 2], [7, 5, 8], [1, 3, 5], [10, 20, 1]]
        self.assertEqual(least_way(rinses, 0, 1), [2, 1])
        self.assertEqual(least_way(rinses, 1, 0), [0])
        self.assertEqual(least_way(rinses, -1, 1), [2, 1])
        self.assertEqual(least_way(FOUR, 0, 0), [1, 2, 3, 0])
        self.assertEqual(least_way(FOUR, -1, 3), [0, 1, 2, 3])
        self.assertEqual(least_way([[7], [3]], 0, 0), [0])

    def test_ways_are_ways_with_the_least_sum(self):
        for rinses in itertools.chain(made_tables(), two_hue_tables()):
            told = least_rinses(rinses)
            for first, last in places(rinses):
                way = least_way(rinses, first, last)
                self.assertIs(type(way), list)
                self.assertEqual(way[-1], last)
                self.assertTrue(all(type(hue) is int and 0 <= hue < len(rinses) - 1 for hue in way))
                self.assertEqual(plain_sum(rinses, first, way), told[first][last])
                self.assertEqual(way_sum(rinses, first, way), told[first][last])


class WaySumTest(unittest.TestCase):
    def test_told_by_hand(self):
        self.assertEqual(way_sum(THREE, 0, [1]), 9)
        self.assertEqual(way_sum(THREE, 0, [2, 1]), 5)
        self.assertEqual(way_sum(THREE, -1, [1]), 20)
        self.assertEqual(way_sum(THREE, -1, [2, 1]), 4)
        self.assertEqual(way_sum(ONE, -1, [0]), 3)
        self.assertEqual(way_sum(ONE, 0, [0]), 0)
        self.assertEqual(way_sum([[7], [3]], 0, [0, 0, 0]), 21)

    def test_straight_way_is_the_given_rinse(self):
        for rinses in made_tables():
            for first, last in places(rinses):
                self.assertEqual(way_sum(rinses, first, [last]), rinses[first][last])

    def test_hues_that_come_again(self):
        self.assertEqual(way_sum(TWO, 0, [1, 0, 1, 0]), 14)
        self.assertEqual(way_sum(FOUR, 2, [2, 2, 3, 0, 2, 2]), 5 + 5 + 1 + 1 + 9 + 5)
        self.assertEqual(way_sum(FOUR, -1, [0, 0, 0]), 10)
        self.assertEqual(way_sum(FOUR, 0, [1, 2, 3] * 50), 1 + 1 + 1 + 49 * (9 + 1 + 1))

    def test_against_plain_sums(self):
        chance = random.Random(11)
        for rinses in made_tables():
            hues = len(rinses) - 1
            for turn in range(20):
                way = [chance.randrange(hues) for step in range(chance.randint(1, 9))]
                first = chance.randint(-1, hues - 1)
                self.assertEqual(way_sum(rinses, first, way), plain_sum(rinses, first, way))

    def test_thirty_figures(self):
        rinses = [[GREAT] * 4 for f in range(5)]
        self.assertEqual(way_sum(rinses, -1, [0, 1, 2, 3, 3]), 5 * GREAT)


def wrong_forms():
    yield []
    yield [[]]
    yield [[0]]
    yield [[0, 0]]
    yield [[], []]
    yield [[], [], []]
    yield [[0, 0], [0, 0]]
    yield [[0], [0], [0]]
    yield [[0, 0], [0, 0], [0, 0], [0, 0]]
    yield [[0] * 5 for f in range(5)]
    yield [[0] * 5 for f in range(6)]
    yield [[0] * 4 for f in range(6)]
    yield [[0] * 4 for f in range(4)]
    yield [[0] * 6 for f in range(7)]
    yield [[0] * 9 for f in range(10)]


def wrong_rows():
    for rinses in [ONE, TWO, THREE, FOUR]:
        for place in range(len(rinses)):
            for row in [[], rinses[place][:-1], rinses[place] + [0]]:
                yield rinses[:place] + [row] + rinses[place + 1:]


def wrong_numbers():
    wrong = [-1, -GREAT, True, False, None, "", "0", "1", "a", [], [0], (), (0,), {}, {0: 0}]
    for rinses in [ONE, TWO, THREE, FOUR]:
        for f in range(len(rinses)):
            for g in range(len(rinses) - 1):
                for thing in wrong:
                    changed = copy.deepcopy(rinses)
                    changed[f][g] = thing
                    yield changed


def no_rinses():
    return list(wrong_forms()) + list(wrong_rows()) + list(wrong_numbers())


def ask_all(rinses):
    return [lambda: least_rinses(rinses), lambda: least_way(rinses, -1, 0), lambda: least_way(rinses, 0, 0),
            lambda: way_sum(rinses, -1, [0]), lambda: way_sum(rinses, 0, [0, 0])]


class NoRinsesTest(unittest.TestCase):
    def test_all_three_refuse(self):
        for rinses in no_rinses():
            for ask in ask_all(rinses):
                with self.assertRaises(RinseError, msg=repr(rinses)) as caught:
                    ask()
                self.assertIs(type(caught.exception), NoRinses)

    def test_what_is_refused_stays_as_it_was(self):
        for rinses in no_rinses():
            ahead = repr(rinses)
            for ask in ask_all(rinses):
                with self.assertRaises(NoRinses):
                    ask()
            self.assertEqual(repr(rinses), ahead)

    def test_refused_where_a_least_way_would_not_pass(self):
        # The wrong number stands where neither the way nor the least one looks.
        rinses = [[0, 1], [1, 0], [1, -1]]
        self.assertRaises(NoRinses, way_sum, rinses, 0, [1])
        self.assertRaises(NoRinses, least_way, rinses, 0, 1)

    def test_one_to_four_hues_are_taken(self):
        for hues in [1, 2, 3, 4]:
            rinses = [[0] * hues for f in range(hues + 1)]
            self.assertEqual(least_rinses(rinses), rinses)
            self.assertEqual(way_sum(rinses, -1, [hues - 1]), 0)
            self.assertEqual(least_way(rinses, -1, hues - 1)[-1], hues - 1)


def spoil(rows):
    for row in rows:
        row[0] = 777
        row.append(5)
    rows.append([9])


class OwnListsTest(unittest.TestCase):
    def test_what_is_handed_in_stays(self):
        for rinses in made_tables():
            ahead = copy.deepcopy(rinses)
            way = [0, len(rinses) - 2, 0]
            least_rinses(rinses)
            for first, last in places(rinses):
                least_way(rinses, first, last)
            way_sum(rinses, -1, way)
            self.assertEqual(rinses, ahead)
            self.assertEqual(way, [0, len(rinses) - 2, 0])

    def test_told_lists_are_new(self):
        for rinses in made_tables():
            told = least_rinses(rinses)
            again = least_rinses(rinses)
            lists = [rinses, told, again] + rinses + told + again
            self.assertEqual(len({id(each) for each in lists}), len(lists))
            self.assertIsNot(least_way(rinses, 0, 0), least_way(rinses, 0, 0))

    def test_changing_what_was_told(self):
        for rinses in made_tables():
            expected = copy.deepcopy(least_rinses(rinses))
            spoil(least_rinses(rinses))
            self.assertEqual(least_rinses(rinses), expected)
            for first, last in places(rinses):
                way = list(least_way(rinses, first, last))
                least_way(rinses, first, last).append(0)
                least_way(rinses, first, last)[0] = 99
                self.assertEqual(least_way(rinses, first, last), way)
            self.assertEqual(least_rinses(rinses), expected)

    def test_changing_what_was_handed_in(self):
        for given in made_tables():
            rinses = copy.deepcopy(given)
            hues = [0, len(given) - 2]
            told = least_rinses(rinses)
            way = least_way(rinses, -1, 0)
            total = way_sum(rinses, -1, hues)
            ahead = (copy.deepcopy(told), list(way), total)
            spoil(rinses)
            hues.append(0)
            self.assertEqual((told, way, total), ahead)
            self.assertEqual(least_rinses(given), ahead[0])
            self.assertEqual(least_way(given, -1, 0), ahead[1])
            self.assertEqual(way_sum(given, -1, [0, len(given) - 2]), ahead[2])

    def test_changed_rinses_are_reckoned_anew(self):
        rinses = copy.deepcopy(TWO)
        self.assertEqual(least_rinses(rinses)[0][1], 3)
        rinses[0][1] = 2
        self.assertEqual(least_rinses(rinses)[0][1], 2)
        self.assertEqual(way_sum(rinses, 0, [1]), 2)

    def test_the_same_again(self):
        for rinses in made_tables():
            self.assertEqual(least_rinses(rinses), least_rinses(copy.deepcopy(rinses)))
            for first, last in places(rinses):
                self.assertEqual(least_way(rinses, first, last), least_way(copy.deepcopy(rinses), first, last))


if __name__ == "__main__":
    unittest.main()
