"""Points 2, 4, 12, 20 and 23: works, how they refuse, what they tell, and works made from works."""

import copy
import itertools
import unittest

from rinsework.errors import NoCloth, NoName, NoPlan, NoRinses, NoStart, RinseError, TooMany, Twice
from rinsework.works import Works
from tests.made import GREAT, NAMES, NO_NAMES, check_own_lists, made, small_ones, spoil, told_of

TWO = [[0, 3], [4, 0], [1, 2]]
FOUR = [[5, 1, 9, 9], [9, 5, 1, 9], [9, 9, 5, 1], [1, 9, 9, 5], [0, 9, 9, 9]]
A, B, C = ("a", 0, 5, 10, 1), ("b", 1, 6, 20, 2), ("c", 1, 7, -3, 3)
NO_CLOTH = ("a", 0, 5, 10)
NO_RINSES = [[0, 3], [4, 0]]


def cloths(many):
    return [(name, number % 2, number + 1, 0, 1) for number, name in enumerate(NAMES[:many])]


def no_cloths():
    """Tuples of any length, of anything, that are no cloths for two hues."""
    yield from [(), ("a",), ("a", 0), ("a", 0, 5), NO_CLOTH, A + (1,), A + A, (None,) * 5, ((), (), (), (), ())]
    for name in ["", "A", "a1", "a ", "abcdefghi", 0, None, True, [], ["a"], ("a",), {}]:
        yield (name, 0, 5, 10, 1)
    for hue in [-1, 2, 3, GREAT, -GREAT, None, True, False, "0", [], [0], (), {}]:
        yield ("a", hue, 5, 10, 1)
    for number in [0, -1, -GREAT, None, True, False, "1", "", [], [1], (), (1,), {}]:
        yield ("a", 0, number, 10, 1)
        yield ("a", 0, 5, 10, number)
    for due in [None, True, False, "1", "", [], [1], (), (1,), {}]:
        yield ("a", 0, 5, due, 1)


class RefusalsTest(unittest.TestCase):
    def refused(self, refusal, ask):
        with self.assertRaises(RinseError) as caught:
            ask()
        self.assertIs(type(caught.exception), refusal)
        return caught.exception

    def test_no_rinses(self):
        for rinses in [[], [[]], NO_RINSES, [[0], [-1]], [[0], [True]], [[0], [None]], [[0, 0]] * 4, [[0] * 5] * 6]:
            self.refused(NoRinses, lambda: Works(rinses, []))

    def test_no_start(self):
        for last in [-2, 2, 3, GREAT, -GREAT, True, False, "0", "", [], [0], (), {}]:
            self.refused(NoStart, lambda: Works(TWO, [], last))
            self.refused(NoStart, lambda: Works(TWO, [], last, 5))
        for time in [-1, -GREAT, None, True, False, "0", "", [], [0], (), {}]:
            self.refused(NoStart, lambda: Works(TWO, [], None, time))
            self.refused(NoStart, lambda: Works(TWO, [], 1, time))

    def test_last_hue_goes_by_the_rinses(self):
        for hues in (1, 2, 3, 4):
            rinses = [[0] * hues] * (hues + 1)
            self.assertEqual(Works(rinses, [], hues - 1).start(), (hues - 1, 0))
            self.refused(NoStart, lambda: Works(rinses, [], hues))
            self.assertEqual(Works(rinses, [("a", hues - 1, 1, 0, 1)]).cloth("a")[1], hues - 1)
            self.refused(NoCloth, lambda: Works(rinses, [("a", hues, 1, 0, 1)]))

    def test_too_many(self):
        self.assertEqual(len(Works(TWO, cloths(10)).names()), 10)
        self.refused(TooMany, lambda: Works(TWO, cloths(11)))
        self.refused(TooMany, lambda: Works(TWO, [A] * 11))
        self.refused(TooMany, lambda: Works(TWO, [A] * 200))

    def test_no_cloth(self):
        for cloth in no_cloths():
            for given in [[cloth], [B, cloth], [cloth, B], [C, cloth, B]]:
                self.refused(NoCloth, lambda: Works(TWO, given))
            self.refused(NoCloth, lambda: Works(TWO, [B]).put(cloth))
            self.refused(NoCloth, lambda: Works(TWO, []).put(cloth))

    def test_twice(self):
        other = ("a", 1, 9, 9, 9)
        for given, name in [([A, A], "a"), ([A, other], "a"), ([A, B, other], "a"), ([A, B, B, A], "b"),
                            ([A, B, C, C, B, A], "c"), ([A, B, A, B], "a"), ([A, A, A], "a")]:
            self.assertEqual(self.refused(Twice, lambda: Works(TWO, given)).name, name)
        for cloth in [A, other]:
            self.assertEqual(self.refused(Twice, lambda: Works(TWO, [B, A]).put(cloth)).name, "a")

    def test_two_faults_at_once(self):
        given_cloths = [[A], [NO_CLOTH], [A, A], cloths(11), [NO_CLOTH] * 11]
        for given, last, time in itertools.product(given_cloths, [0, 2, True], [0, -1, "0"]):
            self.refused(NoRinses, lambda: Works(NO_RINSES, given, last, time))
            if last or time:
                self.refused(NoStart, lambda: Works(TWO, given, last, time))
        self.refused(TooMany, lambda: Works(TWO, [NO_CLOTH] * 11))

    def test_eleven_of_which_one_is_none(self):
        for place in range(11):
            given = cloths(11)
            given[place] = NO_CLOTH
            self.refused(TooMany, lambda: Works(TWO, given))
            given[place] = given[place - 1]
            self.refused(TooMany, lambda: Works(TWO, given))

    def test_cloth_by_cloth(self):
        self.refused(NoCloth, lambda: Works(TWO, [A, NO_CLOTH, A]))
        self.refused(NoCloth, lambda: Works(TWO, [NO_CLOTH, A, A]))
        self.assertEqual(self.refused(Twice, lambda: Works(TWO, [A, A, NO_CLOTH])).name, "a")
        self.refused(NoCloth, lambda: Works(TWO, [A, ("a", 0, 0, 0, 1)]))
        self.refused(NoCloth, lambda: Works(TWO, [A]).put(("a", 0, 0, 0, 1)))

    def test_put_to_ten(self):
        full = Works(TWO, cloths(10))
        for cloth in [(NAMES[10], 0, 1, 0, 1), (NAMES[0], 0, 1, 0, 1), NO_CLOTH, ()]:
            self.refused(TooMany, lambda: full.put(cloth))
        self.assertEqual(len(Works(TWO, cloths(9)).put(("q", 0, 1, 0, 1)).names()), 10)

    def test_no_name(self):
        works = Works(TWO, [A, B, C])
        for name in ["", "d", "A", "ab", "a ", "aa", "nocloth", "abcdefghi"]:
            self.refused(NoName, lambda: works.cloth(name))
            self.refused(NoName, lambda: works.without(name))
        self.refused(NoName, lambda: Works(TWO, []).cloth("a"))
        self.refused(NoName, lambda: works.without("a").cloth("a"))
        self.refused(NoName, lambda: works.without("a").without("a"))

    def test_no_plan(self):
        works = Works(TWO, [A, B, C])
        wrong = [["a", "a"], ["a", "b", "c", "a"], ["d"], ["a", "d"], [["a"]], [("a", "b")]]
        wrong += [before + [thing] for thing in NO_NAMES if thing != "a" for before in ([], ["a"], ["b", "c"])]
        for names in wrong:
            self.refused(NoPlan, lambda: works.only(names))
            self.refused(NoPlan, lambda: works.begun(names))
        self.refused(NoPlan, lambda: works.begun(["a"]).begun(["a"]))

    def test_what_is_refused_changes_nothing(self):
        works = Works(TWO, [A, B], 1, 4)
        ahead = told_of(works)
        for ask in [lambda: works.put(A), lambda: works.put(NO_CLOTH), lambda: works.without("c"),
                    lambda: works.only(["c"]), lambda: works.begun(["a", "a"]), lambda: works.cloth("c")]:
            self.assertRaises(RinseError, ask)
            self.assertEqual(told_of(works), ahead)


class TellsTest(unittest.TestCase):
    def test_start(self):
        self.assertEqual(Works(TWO, []).start(), (-1, 0))
        self.assertEqual(Works(TWO, [A], None).start(), (-1, 0))
        self.assertEqual(Works(TWO, [A], -1).start(), (-1, 0))
        self.assertEqual(Works(TWO, [A], None, 7).start(), (-1, 7))
        self.assertEqual(Works(TWO, [A], 0).start(), (0, 0))
        self.assertEqual(Works(TWO, [A], 1, GREAT).start(), (1, GREAT))
        self.assertIs(type(Works(TWO, []).start()), tuple)

    def test_none_and_the_fresh_vat_are_one(self):
        for given in small_ones(1, 3):
            told = [told_of(Works(given.rinses, given.cloths, last, given.time)) for last in (None, -1)]
            self.assertEqual(told[0], told[1])

    def test_names_and_cloths(self):
        works = Works(TWO, [C, A, B])
        self.assertEqual(works.names(), ["a", "b", "c"])
        self.assertEqual([works.cloth(name) for name in "abc"], [A, B, C])
        self.assertEqual(Works(TWO, []).names(), [])
        for given in small_ones():
            self.assertEqual(given.works().names(), given.names)
            self.assertEqual({name: given.works().cloth(name) for name in given.names}, given.by_name)

    def test_names_of_which_one_begins_another(self):
        given = [(name, 0, 1, 0, 1) for name in ["b", "ab", "a", "abc", "aa", "ba"]]
        works = Works(TWO, given)
        expected = ["a", "aa", "ab", "abc", "b", "ba"]
        self.assertEqual(works.names(), expected)
        self.assertEqual(works.due_row(0), expected)
        self.assertEqual(works.steep_row(0), expected)

    def test_rinses_as_handed_in_and_least(self):
        works = Works(FOUR, [])
        self.assertEqual(works.hues(), 4)
        self.assertEqual(works.rinses(), FOUR)
        self.assertEqual([[works.tray_rinse(f, g) for g in range(4)] for f in (0, 1, 2, 3, -1)],
                         [[4, 1, 2, 3], [3, 4, 1, 2], [2, 3, 4, 1], [1, 2, 3, 4], [0, 1, 2, 3]])
        self.assertEqual([[works.rinse(f, g) for g in range(4)] for f in (0, 1, 2, 3, -1)],
                         [[0, 1, 2, 3], [3, 0, 1, 2], [2, 3, 0, 1], [1, 2, 3, 0], [0, 1, 2, 3]])

    def test_rinses_held_against_all_ways(self):
        for given in small_ones(4, 0):
            works = given.works()
            self.assertEqual((works.hues(), works.rinses()), (given.hues, given.rinses))
            for (f, g), least in given.least.items():
                self.assertEqual(works.tray_rinse(f, g), least)
                self.assertEqual(works.rinse(f, g), 0 if f == g else least)

    def test_thirty_figures(self):
        rinses = [[0, GREAT], [GREAT, 0], [GREAT, GREAT]]
        cloth = ("a", 1, GREAT, -GREAT, GREAT)
        works = Works(rinses, [cloth, ("b", 0, GREAT, GREAT, GREAT)], 1, GREAT)
        self.assertEqual(works.cloth("a"), cloth)
        self.assertEqual(works.rinse(0, 1), GREAT)
        self.assertEqual(works.begun(["b", "a"]).start(), (1, 5 * GREAT))
        self.assertEqual(works.begun(["b"]).begun(["a"]).start(), (1, 5 * GREAT))

    def test_a_cloth_that_is_put_keeps_its_kind(self):
        cloth = Works(TWO, [A]).put(B).cloth("b")
        self.assertEqual((type(cloth), cloth), (tuple, B))


class RowsTest(unittest.TestCase):
    def test_told_by_hand(self):
        works = Works(TWO, [("d", 0, 9, 5, 3), ("b", 0, 4, -5, 2), ("a", 0, 6, 5, 2), ("c", 1, 1, 0, 1), ("e", 0, 2, 5, 1)])
        self.assertEqual(works.due_row(0), ["b", "a", "d", "e"])
        self.assertEqual(works.steep_row(0), ["b", "e", "a", "d"])
        self.assertEqual((works.due_row(1), works.steep_row(1)), (["c"], ["c"]))

    def test_dues_of_either_sign(self):
        works = Works([[0], [0]], [("a", 0, 1, 0, 1), ("b", 0, 1, -2, 1), ("c", 0, 1, 2, 1), ("d", 0, 1, -10, 1)])
        self.assertEqual(works.due_row(0), ["d", "b", "a", "c"])

    def test_exact_fractions(self):
        # With numbers of a point all of these would be alike, and would then stand by their names.
        near = [("a", 0, GREAT, 0, GREAT - 1), ("b", 0, GREAT - 1, 0, GREAT - 2), ("c", 0, GREAT - 1, 0, GREAT)]
        near += [("d", 0, GREAT - 1, 0, GREAT - 1), ("e", 0, 7, 0, 7), ("f", 0, GREAT, 0, GREAT)]
        self.assertEqual(Works([[0], [0]], near).steep_row(0), ["c", "d", "e", "f", "a", "b"])
        near = [("a", 0, GREAT, 0, 3), ("b", 0, GREAT - 1, 0, 3), ("c", 0, GREAT, 0, 4), ("d", 0, GREAT - 1, 0, 4)]
        self.assertEqual(Works([[0], [0]], near).steep_row(0), ["d", "c", "b", "a"])

    def test_like_fractions_by_their_names(self):
        alike = [("ab", 0, 2, 3, 4), ("b", 0, 1, 1, 2), ("a", 0, 500, 2, 1000), ("aa", 0, 3, 0, 6)]
        self.assertEqual(Works([[0], [0]], alike).steep_row(0), ["a", "aa", "ab", "b"])

    def test_whatever_order_they_came_in(self):
        given = [("ab", 0, 2, 3, 4), ("b", 1, 1, 1, 2), ("a", 0, 5, 3, 10), ("aa", 1, 3, 0, 1)]
        for order in itertools.permutations(given):
            works = Works(TWO, list(order))
            self.assertEqual([works.due_row(0), works.due_row(1)], [["a", "ab"], ["aa", "b"]])
            self.assertEqual([works.steep_row(0), works.steep_row(1)], [["a", "ab"], ["b", "aa"]])

    def test_held_against_fractions(self):
        for given in small_ones() + [made(seed, 10, hues, 4) for seed in range(10) for hues in (1, 2, 4)]:
            works = given.works()
            self.assertEqual([works.due_row(hue) for hue in range(given.hues)], given.due_rows())
            self.assertEqual([works.steep_row(hue) for hue in range(given.hues)], given.steep_rows())


class MadeFromWorksTest(unittest.TestCase):
    def test_put(self):
        works = Works(TWO, [A], 1, 9)
        more = works.put(B).put(C)
        self.assertEqual(told_of(more), told_of(Works(TWO, [A, B, C], 1, 9)))
        self.assertEqual(told_of(works), told_of(Works(TWO, [A], 1, 9)))
        self.assertIsInstance(more, Works)

    def test_without(self):
        works = Works(TWO, [A, B, C], 1, 9)
        self.assertEqual(told_of(works.without("b")), told_of(Works(TWO, [A, C], 1, 9)))
        self.assertEqual(told_of(works.without("b").without("a").without("c")), told_of(Works(TWO, [], 1, 9)))
        self.assertEqual(told_of(works.without("b").put(B)), told_of(works))
        self.assertEqual(told_of(works), told_of(Works(TWO, [A, B, C], 1, 9)))

    def test_only(self):
        for given in small_ones(1, 4):
            works = given.works()
            ahead = told_of(works)
            for names in given.lists():
                left = [cloth for cloth in given.cloths if cloth[0] in names]
                expected = Works(given.rinses, left, given.last, given.time)
                self.assertEqual(told_of(works.only(names)), told_of(expected))
            self.assertEqual(told_of(works), ahead)

    def test_begun(self):
        works = Works(TWO, [A, B, C])
        self.assertEqual(works.begun([]).start(), (-1, 0))
        self.assertEqual(works.begun(["a"]).start(), (0, 1 + 5))
        self.assertEqual(works.begun(["a", "c"]).start(), (1, 1 + 5 + 3 + 7))
        self.assertEqual(works.begun(["a", "c"]).names(), ["b"])
        self.assertEqual(works.begun(["b", "c", "a"]).start(), (0, 2 + 6 + 7 + 4 + 5))
        self.assertEqual(works.begun(["b", "c", "a"]).names(), [])
        self.assertEqual(Works(TWO, [A, B], 0, 100).begun(["a"]).start(), (0, 105))

    def test_begun_held_against_the_same_by_hand(self):
        for given in small_ones(2, 4):
            works = given.works()
            ahead = told_of(works)
            for names in given.lists():
                begun = works.begun(names)
                self.assertIsInstance(begun, Works)
                self.assertEqual(told_of(begun), told_of(given.begun(names).works()))
                one_by_one = works
                for name in names:
                    one_by_one = one_by_one.begun([name])
                self.assertEqual(told_of(one_by_one), told_of(begun))
            self.assertEqual(told_of(works), ahead)

    def test_ten_cloths(self):
        works = Works(TWO, cloths(10))
        self.assertEqual(works.only(works.names()).names(), works.names())
        self.assertEqual(works.begun(works.names()).names(), [])
        self.assertEqual(len(works.without(NAMES[3]).put(("q", 1, 1, 1, 1)).names()), 10)


class OwnListsTest(unittest.TestCase):
    def test_what_is_handed_in_stays_and_is_not_kept(self):
        for given in small_ones(1, 4):
            rinses, handed = copy.deepcopy(given.rinses), list(given.cloths)
            works = Works(rinses, handed, given.last, given.time)
            ahead = told_of(works)
            self.assertEqual((rinses, handed), (given.rinses, given.cloths))
            spoil([rinses, handed])
            self.assertEqual(told_of(works), ahead)

    def test_names_handed_in_stay_and_are_not_kept(self):
        works = Works(TWO, [A, B, C])
        names = ["c", "a"]
        some, begun = works.only(names), works.begun(names)
        ahead = (told_of(some), told_of(begun))
        self.assertEqual(names, ["c", "a"])
        spoil(names)
        self.assertEqual((told_of(some), told_of(begun)), ahead)

    def test_told_lists_are_the_asker_s_own(self):
        for given in small_ones(1, 4):
            works = given.works()
            ahead = told_of(works)
            for ask in [works.rinses, works.names, lambda: works.due_row(0), lambda: works.steep_row(0)]:
                check_own_lists(self, ask)
            self.assertEqual(told_of(works), ahead)

    def test_works_made_from_works_share_nothing(self):
        works = Works(TWO, [A, B, C])
        for other in [works.put(("d", 0, 1, 1, 1)), works.without("a"), works.only(["a"]), works.begun([])]:
            spoil(other.rinses())
            spoil(other.names())
            self.assertEqual(other.rinses(), TWO)
            self.assertEqual(told_of(works), told_of(Works(TWO, [A, B, C])))


if __name__ == "__main__":
    unittest.main()
