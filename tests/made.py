"""Works that are made for tests, and the same reckoned by other words than the program's, to be held against it."""

import copy
import functools
import itertools
import random
from fractions import Fraction

from rinsework.works import Works

GREAT = 10 ** 30 - 1
NAMES = ["a", "ab", "b", "abc", "ba", "z", "aa", "zzzzzzzz", "c", "bz", "d"]
NO_NAMES = [0, 1, -1, None, True, False, [], ["a"], (), ("a",), {}, {"a": 1}, "", "A", "a ", "nocloth", GREAT]


@functools.lru_cache(maxsize=None)
def tried_rinses(rinses):
    """The least sums of ways with fewer stops between than there are hues."""
    hues = range(len(rinses) - 1)
    ways = [stops for many in hues for stops in itertools.product(hues, repeat=many)]
    return {(first, then): min(sum(rinses[f][g] for f, g in zip((first,) + way, way + (then,))) for way in ways)
            for first in range(-1, len(hues)) for then in hues}


class Given:
    """What works are made of; each reckoning looks at it alone."""

    def __init__(self, rinses, cloths, last=-1, time=0):
        self.rinses, self.cloths, self.last, self.time = rinses, cloths, last, time
        self.hues = len(rinses) - 1
        self.by_name = {cloth[0]: cloth for cloth in cloths}
        self.names = sorted(self.by_name)
        self.least = tried_rinses(tuple(tuple(row) for row in rinses))

    def works(self):
        return Works(copy.deepcopy(self.rinses), list(self.cloths), self.last, self.time)

    def done(self, names):
        rows, hue, time = [], self.last, self.time
        for name in names:
            begin = time + (self.least[hue, self.by_name[name][1]] if hue != self.by_name[name][1] else 0)
            hue, time = self.by_name[name][1], begin + self.by_name[name][2]
            rows.append((name, begin, time))
        return rows

    def end(self, names):
        return ([self.time] + [end for name, begin, end in self.done(names)])[-1]

    def latenesses(self, names):
        return [end - self.by_name[name][3] for name, begin, end in self.done(names)]

    def late(self, names):
        return max(self.latenesses(names)) if names else None

    def cost(self, names):
        return sum(self.by_name[name][4] * end for name, begin, end in self.done(names))

    def keeps(self, names, bound):
        return bound is None or all(late <= bound for late in self.latenesses(names))

    def row(self, hue, key):
        return sorted([name for name in self.names if self.by_name[name][1] == hue], key=lambda name: (key(name), name))

    def due_rows(self):
        return [self.row(hue, lambda name: self.by_name[name][3]) for hue in range(self.hues)]

    def steep_rows(self):
        steep = {name: Fraction(cloth[2], cloth[4]) for name, cloth in self.by_name.items()}
        return [self.row(hue, lambda name: steep[name]) for hue in range(self.hues)]

    def orders(self):
        return [list(order) for order in itertools.permutations(self.names)]

    def lists(self):
        return [list(order) for many in range(len(self.names) + 1)
                for order in itertools.permutations(self.names, many)]

    def least_late(self):
        return min(self.late(order) for order in self.orders())

    def bounds(self):
        """Bounds where the answers change, one less, one more, and None."""
        lates = sorted({self.late(order) for order in self.orders()}) if self.names else [0]
        near = {late + more for late in lates[:2] + lates[-1:] for more in (-1, 0, 1)}
        return sorted(near) + [None]

    def without(self, names):
        return Given(self.rinses, [cloth for cloth in self.cloths if cloth[0] not in names], self.last, self.time)

    def begun(self, names):
        hue = self.by_name[names[-1]][1] if names else self.last
        left = [cloth for cloth in self.cloths if cloth[0] not in names]
        return Given(self.rinses, left, hue, self.end(names))

    def put(self, cloth):
        return Given(self.rinses, self.cloths + [cloth], self.last, self.time)

    def prefixes(self):
        """The lists in due order that have the first cloths of each due row alone."""
        rows = self.due_rows()
        return [names for names in self.lists()
                if all([name for name in names if name in row] == row[:len(set(row) & set(names))] for row in rows)]

    def state(self, names):
        counts = tuple(len(set(row) & set(names)) for row in self.due_rows())
        return counts, self.by_name[names[-1]][1] if names else self.last

    def soonest(self, bound):
        times = {}
        for names in self.prefixes():
            if self.keeps(names, bound):
                times.setdefault(self.state(names), []).append(self.end(names))
        return sorted((counts, last, min(times[counts, last])) for counts, last in times)

    def bars(self, bound, table, end=None):
        """Point 42, clause by clause."""
        rows = self.due_rows()
        full = tuple(len(row) for row in rows)
        for number, (counts, last, time) in enumerate(table):
            if not all(0 <= done <= many for done, many in zip(counts, full)) or not -1 <= last <= self.hues - 1:
                return False
            if any((counts, last) == other[:2] for other in table[:number]):
                return False
            if counts == full and (end is None or time < end):
                return False
            for hue in range(self.hues):
                if counts[hue] < full[hue]:
                    cloth = self.by_name[rows[hue][counts[hue]]]
                    after = time + (self.least[last, hue] if last != hue else 0) + cloth[2]
                    behind = counts[:hue] + (counts[hue] + 1,) + counts[hue + 1:]
                    broken = bound is not None and after - cloth[3] > bound
                    if not broken and not any(row[:2] == (behind, hue) and row[2] <= after for row in table):
                        return False
        start = ((0,) * self.hues, self.last)
        return any(row[:2] == start and row[2] <= self.time for row in table)

    def corners(self):
        """The pairs of greatest lateness and end that no order undercuts, rising by the lateness."""
        pairs = {(self.late(order), self.end(order)) for order in self.orders()} if self.names else set()
        return sorted(pair for pair in pairs
                      if not any(one[0] <= pair[0] and one[1] <= pair[1] and one != pair for one in pairs))

    def keeps_some(self, bound):
        return any(self.keeps(order, bound) for order in self.orders())

    def rest(self, counts, last, time):
        """What is left of the works in a state at a time."""
        left = {name for row, done in zip(self.due_rows(), counts) for name in row[done:]}
        return Given(self.rinses, [cloth for cloth in self.cloths if cloth[0] in left], last, time)


def is_in_order(rows, names):
    return all([name for name in names if name in row] == [name for name in row if name in names] for row in rows)


def made_rinses(chance, hues, most):
    return [[chance.randint(0, most) for g in range(hues)] for f in range(hues + 1)]


def made(seed, many, hues, most=9):
    """Works by chance; with a small most many numbers are alike."""
    chance = random.Random(repr((seed, many, hues, most)))
    cloths = [(name, chance.randrange(hues), chance.randint(1, most), chance.randint(-most, 3 * most),
               chance.randint(1, most)) for name in chance.sample(NAMES, many)]
    return Given(made_rinses(chance, hues, most), cloths, chance.randint(-1, hues - 1), chance.choice([0, 0, most]))


def small_ones(seeds=3, most_cloths=5):
    """Works of up to five cloths of one to four hues, with small and with great numbers."""
    return [made(seed, many, hues, most) for seed in range(seeds) for many in range(most_cloths + 1)
            for hues in (1, 2, 3, 4) for most in (3, 12, GREAT)]


def told_of(works):
    """All that works tell of themselves."""
    hues = works.hues()
    rinse = [[works.rinse(f, g) for g in range(hues)] for f in range(-1, hues)]
    tray_rinse = [[works.tray_rinse(f, g) for g in range(hues)] for f in range(-1, hues)]
    rows = [(works.due_row(hue), works.steep_row(hue)) for hue in range(hues)]
    cloths = [works.cloth(name) for name in works.names()]
    return copy.deepcopy((hues, works.rinses(), rinse, tray_rinse, works.start(), works.names(), cloths, rows))


def lists_in(thing):
    """The lists within what was told, itself among them."""
    if isinstance(thing, (list, tuple)):
        within = [each for part in thing for each in lists_in(part)]
        return within + ([thing] if isinstance(thing, list) else [])
    return []


def spoil(thing):
    """Changes each list within what was told."""
    for each in lists_in(thing):
        each.reverse()
        each.append("spoiled")
        each[0] = None


def check_own_lists(case, ask):
    """What the asker does to what was told changes nothing told later, and no list is told twice."""
    first, second = ask(), ask()
    kept = copy.deepcopy(first)
    case.assertEqual(first, second)
    lists = lists_in(first) + lists_in(second)
    case.assertEqual(len({id(each) for each in lists}), len(lists))
    spoil(first)
    case.assertEqual(second, kept)
    case.assertEqual(ask(), kept)
