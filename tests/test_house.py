"""Points 2, 4, 110 and 111: deeds of a house, taking back, what is told, and that safe cloths keep a bound to the end."""

import random
import unittest

from rinsework.errors import NoCloth, NoName, NoRinses, NoStart, NothingDone, NoTime, RinseError, TooMany, Twice
from rinsework.house import House
from rinsework.latest import safe
from rinsework.plans import done_rows, lateness
from rinsework.tables import plan_for
from rinsework.works import Works
from tests.made import GREAT, NAMES, NO_NAMES, Given, check_own_lists, made, small_ones, spoil, told_of

TWO = [[0, 3], [4, 0], [1, 2]]
A, B, C = ("a", 0, 5, 10, 1), ("b", 1, 6, 20, 1), ("c", 1, 7, 15, 1)


def told(house):
    """All that a house tells."""
    return told_of(house.works()), house.done(), house.worst()


def house_with(given):
    house = House(given.rinses, given.last, given.time)
    for cloth in given.cloths:
        house.put(cloth)
    return house


class HouseTest(unittest.TestCase):
    def test_a_new_one(self):
        for house, start in [(House(TWO), (-1, 0)), (House(TWO, None, 5), (-1, 5)), (House(TWO, 1, GREAT), (1, GREAT)),
                             (House(TWO, -1), (-1, 0))]:
            works = house.works()
            self.assertIs(type(works), Works)
            self.assertEqual((works.start(), works.names(), works.rinses()), (start, [], TWO))
            self.assertEqual((house.done(), house.worst()), ([], None))

    def test_told_by_hand(self):
        house = House(TWO)
        for cloth in (A, B, C):
            self.assertIsNone(house.put(cloth))
        self.assertEqual(house.works().names(), ["a", "b", "c"])
        self.assertIsNone(house.work("a"))
        self.assertEqual((house.done(), house.worst(), house.works().start()), ([("a", 1, 6)], -4, (0, 6)))
        self.assertEqual(house.works().names(), ["b", "c"])
        self.assertIsNone(house.wait(20))
        self.assertEqual((house.works().start(), house.worst()), ((0, 20), -4))
        self.assertIsNone(house.drop("b"))
        self.assertEqual(house.works().names(), ["c"])
        house.work("c")
        self.assertEqual((house.done(), house.worst()), ([("a", 1, 6), ("c", 23, 30)], 15))
        self.assertEqual((house.works().start(), house.works().names()), ((1, 30), []))
        self.assertIsNone(house.back())
        self.assertEqual((house.done(), house.worst(), house.works().start()), ([("a", 1, 6)], -4, (0, 20)))
        house.back()
        self.assertEqual(house.works().names(), ["b", "c"])
        house.back()
        self.assertEqual(house.works().start(), (0, 6))
        house.back()
        self.assertEqual((house.done(), house.worst(), house.works().start()), ([], None, (-1, 0)))

    def test_no_rinse_within_one_hue(self):
        house = House([[9, 3], [4, 9], [1, 2]], 1, 5)
        house.put(B)
        house.put(C)
        house.work("b")
        house.wait(50)
        house.work("c")
        self.assertEqual(house.done(), [("b", 5, 11), ("c", 50, 57)])

    def test_the_least_rinse(self):
        house = House([[0, 9], [1, 0], [50, 1]])
        house.put(("a", 0, 3, 0, 2))
        house.work("a")
        self.assertEqual(house.done(), [("a", 2, 5)])

    def test_the_greatest_lateness(self):
        house = House([[0], [0]])
        for name, due in [("a", 0), ("b", 100), ("c", 1)]:
            house.put((name, 0, 5, due, 1))
        for name, worst in [("b", -95), ("a", 10), ("c", 14)]:
            house.work(name)
            self.assertEqual(house.worst(), worst)
        for worst in (10, -95, None):
            house.back()
            self.assertEqual(house.worst(), worst)

    def test_a_lateness_of_nought(self):
        house = House([[0], [0]])
        house.put(("a", 0, 5, 5, 1))
        house.put(("b", 0, 5, 20, 1))
        house.work("a")
        self.assertEqual(house.worst(), 0)
        house.work("b")
        self.assertEqual(house.worst(), 0)

    def test_a_name_again(self):
        house = House(TWO)
        house.put(A)
        house.work("a")
        house.put(("a", 1, 2, 3, 4))
        self.assertEqual(house.works().cloth("a"), ("a", 1, 2, 3, 4))
        house.work("a")
        self.assertEqual(house.done(), [("a", 1, 6), ("a", 9, 11)])
        house.put(A)
        house.drop("a")
        house.put(("a", 1, 2, 3, 4))
        self.assertEqual(house.works().names(), ["a"])
        for turn in range(3):
            house.back()
        self.assertEqual((house.works().names(), house.done()), ([], [("a", 1, 6), ("a", 9, 11)]))
        house.back()
        self.assertEqual((house.works().cloth("a"), house.done()), (("a", 1, 2, 3, 4), [("a", 1, 6)]))

    def test_waiting(self):
        house = House(TWO, 0, 7)
        house.put(A)
        for time in (7, 7, 8, GREAT, GREAT, GREAT * 100):
            self.assertIsNone(house.wait(time))
            self.assertEqual(house.works().start(), (0, time))
            self.assertEqual((house.works().names(), house.done(), house.worst()), (["a"], [], None))
        for time in (GREAT, GREAT, 8, 7, 7, 7):
            house.back()
            self.assertEqual(house.works().start(), (0, time))
        house.back()
        self.assertEqual(house.works().names(), [])

    def test_the_vat_stays_fresh_while_it_waits(self):
        house = House(TWO)
        house.wait(9)
        house.put(A)
        house.work("a")
        self.assertEqual(house.done(), [("a", 10, 15)])

    def test_eleven_cloths_one_behind_the_other(self):
        house = House(TWO)
        for name in NAMES:
            house.put((name, 0, 1, 1, 1))
            house.work(name)
        self.assertEqual([name for name, begin, end in house.done()], NAMES)
        for name in NAMES:
            house.back()
            house.back()
        self.assertEqual(told(house), told(House(TWO)))


class RefusalsTest(unittest.TestCase):
    def refused(self, refusal, house, deed):
        ahead = told(house)
        with self.assertRaises(RinseError) as caught:
            deed()
        self.assertIs(type(caught.exception), refusal)
        self.assertEqual(told(house), ahead)
        return caught.exception

    def test_the_making(self):
        for refusal, rinses, last, time in [(NoRinses, [], None, 0), (NoRinses, [[0]], 9, -1), (NoRinses, [[-1], [0]], None, 0),
                                            (NoStart, TWO, 2, 0), (NoStart, TWO, -2, 0), (NoStart, TWO, True, 0),
                                            (NoStart, TWO, 0, -1), (NoStart, TWO, 0, True), (NoStart, TWO, 0, None),
                                            (NoStart, TWO, "0", 0)]:
            with self.assertRaises(RinseError) as caught:
                House(rinses, last, time)
            self.assertIs(type(caught.exception), refusal)

    def test_put(self):
        house = House(TWO)
        house.put(A)
        for cloth in [("b", 2, 5, 5, 1), ("b", -1, 5, 5, 1), ("b", 0, 0, 5, 1), ("b", 0, 5, 5, 0), ("B", 0, 5, 5, 1), (),
                      ("b", 0, 5, 5), ("b", 0, 5, 5, 1, 1), ("b", 0, True, 5, 1), ("b", 0, 5, None, 1), ("a", 2, 5, 5, 1)]:
            self.refused(NoCloth, house, lambda: house.put(cloth))
        self.assertEqual(self.refused(Twice, house, lambda: house.put(("a", 1, 9, 9, 9))).name, "a")
        for name in NAMES[1:10]:
            house.put((name, 0, 1, 1, 1))
        for cloth in [("q", 0, 1, 1, 1), ("q", 9, 1, 1, 1), ("a", 0, 1, 1, 1), ()]:
            self.refused(TooMany, house, lambda: house.put(cloth))
        house.drop("a")
        house.put(("q", 0, 1, 1, 1))
        self.assertEqual(len(house.works().names()), 10)

    def test_drop_and_work(self):
        house = House(TWO)
        house.put(A)
        for name in ["b", "c", "nocloth"] + NO_NAMES:
            self.refused(NoName, house, lambda: house.drop(name))
            self.refused(NoName, house, lambda: house.work(name))
        house.work("a")
        self.refused(NoName, house, lambda: house.drop("a"))
        self.refused(NoName, house, lambda: house.work("a"))
        house.put(B)
        house.drop("b")
        self.refused(NoName, house, lambda: house.drop("b"))
        self.refused(NoName, house, lambda: house.work("b"))

    def test_wait(self):
        house = House(TWO, 0, 7)
        for time in [6, 0, -1, -GREAT, True, False, None, "8", "", [], [8], (8,), {}]:
            self.refused(NoTime, house, lambda: house.wait(time))
        house.put(A)
        house.work("a")
        self.refused(NoTime, house, lambda: house.wait(11))
        house.wait(12)
        house.wait(13)
        self.refused(NoTime, house, lambda: house.wait(12))
        # True counts as 1 with Python, and is no time either where 1 would be one.
        early = House(TWO)
        self.refused(NoTime, early, lambda: early.wait(True))
        self.refused(NoTime, early, lambda: early.wait(False))

    def test_nothing_done(self):
        house = House(TWO)
        self.refused(NothingDone, house, house.back)
        self.refused(NothingDone, house, house.back)
        house.put(A)
        house.back()
        self.refused(NothingDone, house, house.back)
        house.wait(0)
        house.back()
        self.refused(NothingDone, house, house.back)

    def test_what_is_refused_is_no_deed(self):
        house = House(TWO)
        house.put(A)
        self.refused(Twice, house, lambda: house.put(A))
        self.refused(NoCloth, house, lambda: house.put(()))
        self.refused(NoName, house, lambda: house.drop("b"))
        self.refused(NoName, house, lambda: house.work("b"))
        self.refused(NoTime, house, lambda: house.wait(-1))
        house.back()
        self.assertEqual(told(house), told(House(TWO)))
        self.refused(NothingDone, house, house.back)


class ByChanceTest(unittest.TestCase):
    """Deeds by chance, each held against what was told ahead of it."""

    def deed(self, chance, house):
        works = house.works()
        kind = chance.randrange(4)
        name = chance.choice(NAMES[:6])
        if kind == 0 and name not in works.names():
            cloth = (name, chance.randrange(2), chance.randint(1, 9), chance.randint(-9, 30), chance.randint(1, 9))
            house.put(cloth)
            self.assertEqual(told(house), (told_of(works.put(cloth)),) + self.ahead[1:])
        elif kind == 1:
            time = works.start()[1] + chance.randint(0, 3)
            house.wait(time)
            cloths = [works.cloth(each) for each in works.names()]
            self.assertEqual(told(house), (told_of(Works(TWO, cloths, works.start()[0], time)),) + self.ahead[1:])
        elif kind == 2 and name in works.names():
            house.drop(name)
            self.assertEqual(told(house), (told_of(works.without(name)),) + self.ahead[1:])
        elif kind == 3 and name in works.names():
            house.work(name)
            late = lateness(works, [name])
            worst = late if self.ahead[2] is None else max(late, self.ahead[2])
            self.assertEqual(told(house), (told_of(works.begun([name])), self.ahead[1] + done_rows(works, [name]), worst))
        else:
            return False
        return True

    def test_there_and_back(self):
        for seed in range(20):
            chance = random.Random(seed)
            house = House(TWO, chance.randint(-1, 1), chance.randint(0, 9))
            past = []
            for turn in range(80):
                self.ahead = told(house)
                if past and chance.randrange(4) == 0:
                    house.back()
                    self.assertEqual(told(house), past.pop())
                elif self.deed(chance, house):
                    past.append(self.ahead)
            while past:
                house.back()
                self.assertEqual(told(house), past.pop())
            with self.assertRaises(NothingDone):
                house.back()


class SafeTest(unittest.TestCase):
    def ways_on(self, house, bound, left):
        """All ways to work safe cloths alone; each comes to an end with all worked and the bound kept."""
        names = safe(house.works(), bound)
        self.assertEqual(names == [], left == 0)
        if not left:
            self.assertEqual(house.works().names(), [])
            self.assertLessEqual(house.worst(), bound)
            return 1
        ways = 0
        for name in names:
            house.work(name)
            self.assertLessEqual(house.worst(), bound)
            ways += self.ways_on(house, bound, left - 1)
            house.back()
        return ways

    def test_safe_cloths_keep_the_bound(self):
        for given in small_ones(1, 4) + [made(seed, 5, hues, most) for seed in range(2) for hues in (1, 2) for most in (4, 30)]:
            if given.names:
                least = given.least_late()
                for bound in (least, least + 2, least + 9):
                    house = house_with(given)
                    kept = [order for order in given.orders() if given.keeps(order, bound)]
                    self.assertEqual(plan_for(house.works(), bound)[0], "plan")
                    self.assertEqual(self.ways_on(house, bound, len(given.names)), len(kept))
                self.assertEqual(safe(house_with(given).works(), least - 1), [])


class OwnListsTest(unittest.TestCase):
    def test_told_lists_are_the_asker_s_own(self):
        house = house_with(Given(TWO, [A, B, C]))
        check_own_lists(self, house.done)
        house.work("a")
        house.work("c")
        check_own_lists(self, house.done)
        kept = house.done()
        ahead = told(house)
        spoil(house.done())
        spoil(house.works().rinses())
        spoil(house.works().names())
        self.assertEqual(told(house), ahead)
        house.work("b")
        house.back()
        house.back()
        self.assertEqual((kept, house.done()), ([("a", 1, 6), ("c", 9, 16)], [("a", 1, 6)]))

    def test_lists_told_ahead_of_a_deed_and_spoiled(self):
        house = house_with(Given(TWO, [A, B, C]))
        house.work("a")
        first = house.done()
        house.work("c")
        spoil(first)
        house.back()
        self.assertEqual(house.done(), [("a", 1, 6)])

    def test_rinses_are_copied(self):
        rinses = [[0, 3], [4, 0], [1, 2]]
        house = House(rinses)
        house.put(A)
        spoil(rinses)
        house.put(B)
        house.wait(1)
        house.work("a")
        self.assertEqual((house.done(), house.works().rinses()), ([("a", 2, 7)], TWO))

    def test_works_that_were_told_stay(self):
        house = house_with(Given(TWO, [A, B, C]))
        works = house.works()
        ahead = told_of(works)
        for deed in [lambda: house.work("a"), lambda: house.drop("b"), lambda: house.wait(99), house.back,
                     lambda: house.put(B)]:
            deed()
            self.assertEqual(told_of(works), ahead)

    def test_two_houses_have_nothing_to_do_with_each_other(self):
        one, other = House(TWO), House(TWO)
        one.put(A)
        one.work("a")
        self.assertEqual(told(other), told(House(TWO)))
        with self.assertRaises(NothingDone):
            other.back()


if __name__ == "__main__":
    unittest.main()
