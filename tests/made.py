"""Works that are made for tests, and the same reckoned by other words than the program's, to be held against it."""

import copy
import functools
import itertools
import random
from fractions import Fraction

from rinsework.works import Works

GREAT = 10 ** 30 - 1
NAMES = ["a", "ab", "b", "abc", "ba", "z", "aa", "zzzzzzzz", "c", "bz", "d"]
NO_NAMES = [0, 1, -1, None, True, False, [], ["a"], (), ("a",), {}, {"a": 1}, "", "A", "a ", "nocloth", GREAT]


@functools.lru_cache(maxsize=None)
def tried_rinses(rinses):
    """The least sums of ways with fewer stops between than there are hues."""
    hues = range(len(rinses) - 1)
    ways = [stops for many in hues for stops in itertools.product(hues, repeat=many)]
    return {(first, then): min(sum(rinses[f][g] for f, g in zip((first,) + way, way + (then,))) for way in ways)
            for first in range(-1, len(hues)) for then in hues}


class Given:
    """What works are made of; each reckoning looks at it alone."""

    def __init__(self, rinses, cloths, last=-1, time=0):
        self.rinses, self.cloths, self.last, self.time = rinses, cloths, last, time
        self.hues = len(rinses) - 1
        self.by_name = {cloth[0]: cloth for cloth in cloths}
        self.names = sorted(self.by_name)
        self.least = tried_rinses(tuple(tuple(row) for row in rinses))

    def works(self):
        return Works(copy.deepcopy(self.rinses), list(self.cloths), self.last, self.time)

    def done(self, names):
        rows, hue, time = [], self.last, self.time
        for name in names:
            begin = time + (self.least[hue, self.by_name[name][1]] if hue != self.by_name[name][1] else 0)
            hue, time = self.by_name[name][1], begin + self.by_name[name][2]
            rows.append((name, begin, time))
        return rows

    def end(self, names):
        return ([self.time] + [end for name, begin, end in self.done(names)])[-1]

    def latenesses(self, names):
        return [end - self.by_name[name][3] for name, begin, end in self.done(names)]

    def late(self, names):
        return max(self.latenesses(names)) if names else None

    def cost(self, names):
        return sum(self.by_name[name][4] * end for name, begin, end in self.done(names))

    def keeps(self, names, bound):
        return bound is None or all(late <= bound for late in self.latenesses(names))

    def row(self, hue, key):
        return sorted([name for name in self.names if self.by_name[name][1] == hue], key=lambda name: (key(name), name))

    def due_rows(self):
        return [self.row(hue, lambda name: self.by_name[name][3]) for hue in range(self.hues)]

    def steep_rows(self):
        steep = {name: Fraction(cloth[2], cloth[4]) for name, cloth in self.by_name.items()}
        return [self.row(hue, lambda name: steep[name]) for hue in range(self.hues)]

    def orders(self):
        return [list(order) for order in itertools.permutations(self.names)]

    def lists(self):
        return [list(order) for many in range(len(self.names) + 1)
                for order in itertools.permutations(self.names, many)]

    def least_late(self):
        return min(self.late(order) for order in self.orders())

    def bounds(self):
        return near(self.late(order) for order in self.orders()) if self.names else near([])

    def without(self, names):
        return Given(self.rinses, [cloth for cloth in self.cloths if cloth[0] not in names], self.last, self.time)

    def begun(self, names):
        hue = self.by_name[names[-1]][1] if names else self.last
        left = [cloth for cloth in self.cloths if cloth[0] not in names]
        return Given(self.rinses, left, hue, self.end(names))

    def put(self, cloth):
        return Given(self.rinses, self.cloths + [cloth], self.last, self.time)

    def prefixes(self):
        """The lists in due order that have the first cloths of each due row alone."""
        rows = self.due_rows()
        return [names for names in self.lists()
                if all([name for name in names if name in row] == row[:len(set(row) & set(names))] for row in rows)]

    def state(self, names):
        counts = tuple(len(set(row) & set(names)) for row in self.due_rows())
        return counts, self.by_name[names[-1]][1] if names else self.last

    def soonest(self, bound):
        times = {}
        for names in self.prefixes():
            if self.keeps(names, bound):
                times.setdefault(self.state(names), []).append(self.end(names))
        return sorted((counts, last, min(times[counts, last])) for counts, last in times)

    def full(self):
        return tuple(len(row) for row in self.due_rows())

    def are_states(self, rows):
        """Whether rows are unlike in all but their last number, with counts and lasts within reach."""
        reached = all(0 <= done <= many for row in rows for done, many in zip(row[0], self.full()))
        return reached and all(-1 <= row[1] < self.hues for row in rows) and len({row[:-1] for row in rows}) == len(rows)

    def has_start(self, table, late=()):
        return any(row[:-1] == ((0,) * self.hues, self.last) + late and row[-1] <= self.time for row in table)

    def nexts(self, rows, counts):
        """Of each hue with cloths left the next cloth of its row, and the counts behind it."""
        return [(self.by_name[row[counts[hue]]], counts_behind(counts, hue, 1))
                for hue, row in enumerate(rows) if counts[hue] < len(row)]

    def took(self, last, cloth):
        return cloth[2] + (self.least[last, cloth[1]] if last != cloth[1] else 0)

    def bars(self, bound, table, end=None):
        """Point 42, clause by clause."""
        if not self.are_states(table) or not self.has_start(table):
            return False
        for counts, last, time in table:
            if counts == self.full() and (end is None or time < end):
                return False
            for cloth, behind in self.nexts(self.due_rows(), counts):
                after = time + self.took(last, cloth)
                broken = bound is not None and after - cloth[3] > bound
                if not broken and not any(row[:2] == (behind, cloth[1]) and row[2] <= after for row in table):
                    return False
        return True

    def corners(self):
        """The pairs of greatest lateness and end that no order undercuts, rising by the lateness."""
        pairs = {(self.late(order), self.end(order)) for order in self.orders()} if self.names else set()
        return sorted(pair for pair in pairs
                      if not any(one[0] <= pair[0] and one[1] <= pair[1] and one != pair for one in pairs))

    def keeps_some(self, bound):
        return any(self.keeps(order, bound) for order in self.orders())

    def rest(self, counts, last, time):
        """What is left of the works in a state at a time."""
        left = {name for row, done in zip(self.due_rows(), counts) for name in row[done:]}
        return Given(self.rinses, [cloth for cloth in self.cloths if cloth[0] in left], last, time)

    def lates(self, names):
        return sum(late > 0 for late in self.latenesses(names))

    def holds_up(self, cost, prices):
        """Point 70, clause by clause."""
        least = cost - self.time * sum(cloth[4] for cloth in self.cloths)
        starts = [row[2] for row in prices if row[:2] == ((0,) * self.hues, self.last)]
        if not self.are_states(prices) or not starts or starts[0] < least:
            return False
        rows = self.steep_rows()
        for counts, last, price in prices:
            if counts == self.full() and price > 0:
                return False
            left = [self.by_name[name] for row, done in zip(rows, counts) for name in row[done:]]
            for cloth, behind in self.nexts(rows, counts):
                step = self.took(last, cloth) * sum(other[4] for other in left)
                if not any(row[:2] == (behind, cloth[1]) and price <= step + row[2] for row in prices):
                    return False
        return True

    def bars_late(self, many, table):
        """Point 80, clause by clause."""
        if not self.are_states(table) or many > 0 and not self.has_start(table, (0,)):
            return False
        for counts, last, late, time in table:
            if not 0 <= late < many or counts == self.full():
                return False
            for cloth, behind in self.nexts(self.due_rows(), counts):
                end = time + self.took(last, cloth)
                asked = [((behind, cloth[1], late), end)] if end <= cloth[3] else []
                asked += [((behind, last, late + 1), time)] if late + 1 < many else []
                if not all(any(row[:3] == state and row[3] <= most for row in table) for state, most in asked):
                    return False
        return True

    def trayed_plans(self):
        """Each order, cut in each way into trays of one hue."""
        plans = []
        for order in self.orders():
            for cuts in itertools.product([False, True], repeat=max(len(order) - 1, 0)):
                trays = [[name] for name in order[:1]]
                for name, cut in zip(order[1:], cuts):
                    if cut:
                        trays.append([name])
                    else:
                        trays[-1].append(name)
                if all(len({self.by_name[name][1] for name in tray}) == 1 for tray in trays):
                    plans.append(trays)
        return plans

    def tray_rows(self, trays):
        rows, hue, time = [], self.last, self.time
        for tray in trays:
            cloths = [self.by_name[name] for name in tray]
            begin = time + self.least[hue, cloths[0][1]]
            hue, time = cloths[0][1], begin + sum(cloth[2] for cloth in cloths)
            rows.append((begin, time))
        return rows

    def tray_end(self, trays):
        return ([self.time] + [end for begin, end in self.tray_rows(trays)])[-1]

    def tray_late(self, trays):
        lates = [end - self.by_name[name][3] for tray, (begin, end) in zip(trays, self.tray_rows(trays)) for name in tray]
        return max(lates) if lates else None

    def tray_order(self, trays):
        places = {name: place for place, tray in enumerate(trays) for name in tray}
        return all(places[row[one]] <= places[row[other]] for row in self.due_rows()
                   for other in range(len(row)) for one in range(other))

    def tray_bars(self, bound, table, end=None):
        """Points 42 and 92, clause by clause."""
        if not self.are_states(table) or not self.has_start(table):
            return False
        for counts, last, time in table:
            if counts == self.full() and (end is None or time < end):
                return False
            for hue, row in enumerate(self.due_rows()):
                for many in range(1, len(row) - counts[hue] + 1):
                    cloths = [self.by_name[name] for name in row[counts[hue]:counts[hue] + many]]
                    after = time + self.least[last, hue] + sum(cloth[2] for cloth in cloths)
                    state = (counts_behind(counts, hue, many), hue)
                    broken = bound is not None and after - cloths[0][3] > bound
                    if not broken and not any(other[:2] == state and other[2] <= after for other in table):
                        return False
        return True

    def only(self, names):
        return Given(self.rinses, [cloth for cloth in self.cloths if cloth[0] in names], self.last, self.time)

    def dealings(self, many):
        """Each order, cut in each way into as many lists as there are vats."""
        places = range(len(self.names) + 1)
        return [[order[one:other] for one, other in zip((0,) + cuts, cuts + (len(order),))] for order in self.orders()
                for cuts in itertools.combinations_with_replacement(places, many - 1)]

    def vat_late(self, dealing):
        return max([self.late(names) for names in dealing if names], default=None)

    def vats_bar(self, many, bound, sets):
        """Point 101, clause by clause."""
        for names, table in sets:
            if not all(name in self.names for name in names) or sorted(set(names)) != names:
                return False
            if not self.only(names).bars(bound, table):
                return False
        ways = itertools.product(range(many), repeat=len(self.names))
        return all(any(len({vat for name, vat in zip(self.names, way) if name in names}) == 1 for names, table in sets)
                   for way in ways)


def counts_behind(counts, hue, many):
    return counts[:hue] + (counts[hue] + many,) + counts[hue + 1:]


def near(lates):
    """Bounds where the answers change, one less, one more, and None."""
    lates = sorted(set(lates)) or [0]
    return sorted({late + more for late in lates[:2] + lates[-1:] for more in (-1, 0, 1)}) + [None]


def changed(rows, place, row):
    return rows[:place] + [row] + rows[place + 1:]


def changed_by_chance(chance, given, rows):
    """Rows of a table, lated rows or priced rows with a small change; what is changed last is their number."""
    place = chance.randrange(len(rows))
    counts, last, *late, number = rows[place]
    deed = chance.randrange(7)
    if deed == 0:
        return rows[:place] + rows[place + 1:]
    if deed == 1:
        return rows + [(counts, chance.randint(-1, given.hues - 1), *late, number + chance.randint(0, 9))]
    if deed == 2:
        return changed(rows, place, (counts, last, *late, number + chance.choice([-3, -1, 1])))
    if deed == 3:
        return changed(rows, place, (counts, last, *late, number - chance.randint(0, 1)))
    if deed == 4:
        hue = chance.randrange(given.hues)
        other = counts[:hue] + (counts[hue] + chance.choice([-1, 1]),) + counts[hue + 1:]
        return rows + [(other, last, *late, number)]
    if deed == 5:
        return changed(rows, place, (counts, last, *[each + chance.choice([-1, 1]) for each in late], number))
    return rows[place:] + rows[:place]


def is_in_order(rows, names):
    return all([name for name in names if name in row] == [name for name in row if name in names] for row in rows)


def made_rinses(chance, hues, most):
    return [[chance.randint(0, most) for g in range(hues)] for f in range(hues + 1)]


def made(seed, many, hues, most=9):
    """Works by chance; with a small most many numbers are alike."""
    chance = random.Random(repr((seed, many, hues, most)))
    cloths = [(name, chance.randrange(hues), chance.randint(1, most), chance.randint(-most, 3 * most),
               chance.randint(1, most)) for name in chance.sample(NAMES, many)]
    return Given(made_rinses(chance, hues, most), cloths, chance.randint(-1, hues - 1), chance.choice([0, 0, most]))


def small_ones(seeds=3, most_cloths=5):
    """Works of up to five cloths of one to four hues, with small and with great numbers."""
    return [made(seed, many, hues, most) for seed in range(seeds) for many in range(most_cloths + 1)
            for hues in (1, 2, 3, 4) for most in (3, 12, GREAT)]


def told_of(works):
    """All that works tell of themselves."""
    hues = works.hues()
    rinse = [[works.rinse(f, g) for g in range(hues)] for f in range(-1, hues)]
    tray_rinse = [[works.tray_rinse(f, g) for g in range(hues)] for f in range(-1, hues)]
    rows = [(works.due_row(hue), works.steep_row(hue)) for hue in range(hues)]
    cloths = [works.cloth(name) for name in works.names()]
    return copy.deepcopy((hues, works.rinses(), rinse, tray_rinse, works.start(), works.names(), cloths, rows))


def lists_in(thing):
    """The lists within what was told, itself among them."""
    if isinstance(thing, (list, tuple)):
        within = [each for part in thing for each in lists_in(part)]
        return within + ([thing] if isinstance(thing, list) else [])
    return []


def spoil(thing):
    """Changes each list within what was told."""
    for each in lists_in(thing):
        each.reverse()
        each.append("spoiled")
        each[0] = None


def check_own_lists(case, ask):
    """What the asker does to what was told changes nothing told later, and no list is told twice."""
    first, second = ask(), ask()
    kept = copy.deepcopy(first)
    case.assertEqual(first, second)
    lists = lists_in(first) + lists_in(second)
    case.assertEqual(len({id(each) for each in lists}), len(lists))
    spoil(first)
    case.assertEqual(second, kept)
    case.assertEqual(ask(), kept)


def check_own_answers(case, asks, most_cloths=4):
    """Asks of works and a bound tell the asker's own lists, and leave the works as they are."""
    for given in small_ones(1, most_cloths):
        works = given.works()
        ahead = told_of(works)
        for bound in given.bounds():
            for ask in asks:
                check_own_lists(case, lambda: ask(works, bound))
        case.assertEqual(told_of(works), ahead)


def check_stays(case, ask, things):
    """What is handed in stays as it is, and asked again the same is said."""
    for thing in things:
        ahead = copy.deepcopy(thing)
        case.assertIs(ask(thing), ask(thing))
        case.assertEqual(thing, ahead)


def check_like_works(case, asks):
    """Of works with the same cloths in another order the same is told."""
    for given in small_ones(1):
        turned = Given(given.rinses, given.cloths[::-1], given.last, given.time)
        for bound in given.bounds():
            for ask in asks:
                case.assertEqual(ask(given.works(), bound), ask(turned.works(), bound))
