"""Points 2, 4, 6, 12 and 100 to 102: dealings, overfull sets, what bars a bound for several vats, the least lateness."""

import copy
import itertools
import unittest

from rinsework.errors import NoPlan, NoVats, RinseError, TooMany
from rinsework.stair import least_late
from rinsework.tables import plan_for, soonest
from rinsework.vats import dealt, dealt_least, vat_lateness, vats_bar
from rinsework.works import Works
from tests.made import GREAT, NO_NAMES, Given, check_like_works, check_own_lists, made, near, small_ones, told_of

TWO = [[0, 3], [4, 0], [1, 2]]
BY_HAND = Given(TWO, [("a", 0, 5, 10, 1), ("b", 1, 6, 20, 1), ("c", 1, 7, 15, 1)])
# Two at one vat are late by 5, three by 10, each by itself by 0.
ALIKE = Given([[0], [0]], [("a", 0, 5, 5, 1), ("b", 0, 5, 5, 1), ("c", 0, 5, 5, 1)])
NO_NUMBERS = [0, 4, -1, 5, GREAT, -GREAT, True, False, None, "", "1", "2", [], [1], (), {}]
FEW = [given for given in small_ones(2, 4) if len(given.names) < 4 or given.hues < 4]


def shut(given, names, bound):
    return soonest(given.only(names).works(), bound)


class VatLatenessTest(unittest.TestCase):
    def test_told_by_hand(self):
        works = BY_HAND.works()
        for dealing, late in [([["a", "c", "b"]], 2), ([["a"], ["c", "b"]], -4), ([["c", "b"], ["a"]], -4),
                              ([["a", "b"], ["c"]], -4), ([["a", "c"], ["b"]], 1), ([["c", "a"], ["b"]], 8),
                              ([["a"], ["b"], ["c"]], -4), ([[], ["a", "c", "b"]], 2), ([["a", "c", "b"], [], []], 2),
                              ([["b"], [], ["c", "a"]], 8), ([["b", "c"], [], ["a"]], 0)]:
            self.assertEqual(vat_lateness(works, dealing), late, dealing)

    def test_each_vat_begins_at_the_start(self):
        works = Works(TWO, BY_HAND.cloths, 1, 100)
        self.assertEqual(vat_lateness(works, [["a"], ["b"], ["c"]]), 100 + 4 + 5 - 10)
        self.assertEqual(vat_lateness(works, [["b"], ["a"], ["c"]]), 99)

    def test_without_cloths(self):
        for works in [Works(TWO, []), Works(TWO, [], 1, 9)]:
            for dealing in [[[]], [[], []], [[], [], []]]:
                self.assertIsNone(vat_lateness(works, dealing))

    def test_held_against_other_words(self):
        for given in FEW:
            works = given.works()
            for many in (1, 2, 3):
                for dealing in given.dealings(many):
                    self.assertEqual(vat_lateness(works, dealing), given.vat_late(dealing))


class RefusalsTest(unittest.TestCase):
    def refused(self, refusal, ask):
        with self.assertRaises(RinseError) as caught:
            ask()
        self.assertIs(type(caught.exception), refusal)

    def all_refuse(self, refusal, works, many):
        self.refused(refusal, lambda: dealt(works, many, 0))
        self.refused(refusal, lambda: dealt(works, many, None))
        self.refused(refusal, lambda: vats_bar(works, many, 0, []))
        self.refused(refusal, lambda: dealt_least(works, many))

    def test_numbers_of_vats(self):
        seven = made(1, 7, 2).works()
        for many in NO_NUMBERS:
            for works in [BY_HAND.works(), Works(TWO, []), seven]:
                self.all_refuse(NoVats, works, many)

    def test_more_than_six_cloths(self):
        for many in (1, 2, 3):
            for cloths in (7, 8, 10):
                self.all_refuse(TooMany, made(1, cloths, 2).works(), many)

    def test_dealings_of_too_few_and_too_many_lists(self):
        seven = made(1, 7, 2).works()
        for works in [BY_HAND.works(), Works(TWO, []), seven]:
            for dealing in [[], [[], [], [], []], [["a"], ["b"], ["c"], []], [["nocloth"]] * 4, [[]] * 9]:
                self.refused(NoVats, lambda: vat_lateness(works, dealing))

    def test_dealings_of_more_than_six_cloths(self):
        seven = made(1, 7, 2).works()
        for dealing in [[seven.names()], [seven.names(), [], []], [[]], [["nocloth"]], [[None], []]]:
            self.refused(TooMany, lambda: vat_lateness(seven, dealing))

    def test_what_is_no_dealing(self):
        works = BY_HAND.works()
        for dealing in [[[]], [["a"], ["b"]], [["a", "b", "c"], ["a"]], [["a", "a", "b", "c"]], [["a", "b", "c", "d"]],
                        [["a"], ["b"], ["b"]], [["a", "b", "c"], ["nocloth"]], [[], [], []], [["a", "b", "c"], ["c"]]]:
            self.refused(NoPlan, lambda: vat_lateness(works, dealing))
        for dealing in [["abc"], ["a", "b", "c"], [("a", "b", "c")], [["a", "b", "c"], ()], [["a", "b", "c"], None]]:
            self.refused(NoPlan, lambda: vat_lateness(works, dealing))
        for thing in NO_NAMES:
            for dealing in [[["a", "b", "c", thing]], [["a", "b"], [thing]], [[thing], ["a", "b", "c"], []]]:
                self.refused(NoPlan, lambda: vat_lateness(works, dealing))
        self.refused(NoPlan, lambda: vat_lateness(Works(TWO, []), [["a"]]))

    def test_what_is_refused_changes_nothing(self):
        works, dealing = BY_HAND.works(), [["a", "b"], ["b"]]
        ahead = told_of(works)
        self.refused(NoPlan, lambda: vat_lateness(works, dealing))
        self.all_refuse(NoVats, works, 0)
        self.assertEqual((told_of(works), dealing), (ahead, [["a", "b"], ["b"]]))


class DealtTest(unittest.TestCase):
    def test_told_by_hand(self):
        works = ALIKE.works()
        for many, late in [(1, 10), (2, 5), (3, 0)]:
            word, dealing = dealt(works, many, late)
            self.assertEqual((word, len(dealing), sorted(sum(dealing, []))), ("dealing", many, ["a", "b", "c"]))
            self.assertLessEqual(vat_lateness(works, dealing), late)
            word, sets = dealt(works, many, late - 1)
            self.assertEqual(word, "overfull")
            self.assertIs(vats_bar(works, many, late - 1, sets), True)
        self.assertEqual(sorted(names for names, table in dealt(works, 2, 4)[1]), [["a", "b"], ["a", "c"], ["b", "c"]])

    def test_without_cloths(self):
        for bound in (None, 0, -GREAT):
            for many in (1, 2, 3):
                self.assertEqual(dealt(Works(TWO, [], 1, 9), many, bound), ("dealing", [[]] * many))

    def held(self, given, many):
        works = given.works()
        lates = [given.vat_late(dealing) for dealing in given.dealings(many)]
        for bound in near([late for late in lates if late is not None]):
            told = dealt(works, many, bound)
            self.assertIs(type(told), tuple)
            word, answer = told
            self.assertIs(type(answer), list)
            if bound is None or not given.names or min(lates) <= bound:
                self.assertEqual((word, len(answer)), ("dealing", many))
                self.assertEqual(sorted(name for names in answer for name in names), given.names)
                self.assertTrue(all(given.keeps(names, bound) for names in answer))
            else:
                self.assertEqual(word, "overfull")
                self.assertTrue(given.vats_bar(many, bound, answer))
                self.assertIs(vats_bar(works, many, bound, answer), True)
                for each in answer:
                    self.assertEqual([type(part) for part in (each,) + each], [tuple, list, list])

    def test_just_one_of_a_dealing_and_sets(self):
        for given in FEW:
            for many in (1, 2, 3):
                self.held(given, many)

    def test_six_cloths(self):
        for hues in (1, 2, 4):
            for most in (9, GREAT):
                given = made(3, 6, hues, most)
                works = given.works()
                for many in (1, 2, 3):
                    late, dealing, sets = dealt_least(works, many)
                    self.assertEqual((vat_lateness(works, dealing), given.vat_late(dealing)), (late, late))
                    self.assertIs(vats_bar(works, many, late - 1, sets), True)
                    self.assertTrue(given.vats_bar(many, late - 1, sets))


class DealtLeastTest(unittest.TestCase):
    def test_told_by_hand(self):
        for many, late in [(1, 10), (2, 5), (3, 0)]:
            self.assertEqual(dealt_least(ALIKE.works(), many)[0], late)
        for many, late in [(1, 2), (2, -4), (3, -4)]:
            self.assertEqual(dealt_least(BY_HAND.works(), many)[0], late)

    def test_without_cloths(self):
        for many in (1, 2, 3):
            self.assertIsNone(dealt_least(Works(TWO, []), many))
            self.assertIsNone(dealt_least(Works(TWO, [], 1, 9), many))

    def test_held_against_all_dealings(self):
        for given in FEW:
            works = given.works()
            for many in (1, 2, 3):
                told = dealt_least(works, many)
                if given.names:
                    late, dealing, sets = told
                    self.assertEqual([type(part) for part in (told,) + told], [tuple, int, list, list])
                    self.assertEqual(late, min(given.vat_late(each) for each in given.dealings(many)))
                    self.assertEqual((len(dealing), vat_lateness(works, dealing)), (many, late))
                    self.assertTrue(given.vats_bar(many, late - 1, sets))
                    self.assertIs(vats_bar(works, many, late - 1, sets), True)
                else:
                    self.assertIsNone(told)

    def test_one_vat_is_as_one_behind_the_other(self):
        for given in small_ones(2):
            if given.names:
                self.assertEqual(dealt_least(given.works(), 1)[0], least_late(given.works())[0])

    def test_more_vats_are_never_later(self):
        for given in small_ones(1):
            if given.names:
                lates = [dealt_least(given.works(), many)[0] for many in (1, 2, 3)]
                self.assertEqual(lates, sorted(lates, reverse=True))


class VatsBarTest(unittest.TestCase):
    def setUp(self):
        self.works = ALIKE.works()
        self.pairs = [(list(pair), shut(ALIKE, pair, 4)) for pair in itertools.combinations("abc", 2)]
        self.three = (["a", "b", "c"], shut(ALIKE, "abc", 4))

    def bars(self, said, sets, many=2, bound=4):
        self.assertIs(vats_bar(self.works, many, bound, sets), said, (many, bound, sets))

    def test_bounds_and_vats(self):
        for many, bound, said in [(1, 4, True), (2, 4, True), (3, 4, False), (2, 5, False), (1, 5, False),
                                  (2, None, False), (1, None, False)]:
            self.bars(said, self.pairs, many, bound)
        self.bars(True, [self.three], 1, 4)
        self.bars(False, [self.three], 2, 4)

    def test_no_sets(self):
        for many in (1, 2, 3):
            for bound in (4, None, -GREAT):
                self.bars(False, [], many, bound)
                self.assertIs(vats_bar(Works(TWO, []), many, bound, []), False)

    def test_a_set_left_out(self):
        for place in range(3):
            self.bars(False, self.pairs[:place] + self.pairs[place + 1:])
            self.bars(True, self.pairs[:place] + self.pairs[place + 1:], 1)
            self.bars(False, self.pairs[:place] + self.pairs[place + 1:] + [self.three])

    def test_sets_more_and_in_any_order(self):
        for sets in itertools.permutations(self.pairs + [self.three]):
            self.bars(True, list(sets))
        self.bars(True, self.pairs + self.pairs)

    def test_names_that_are_not_so(self):
        table = self.pairs[0][1]
        for names in [["b", "a"], ["a", "a"], ["a", "a", "b"], ["a", "d"], ["a", "nocloth"], [], ["b", "a", "c"]]:
            self.bars(False, self.pairs + [(names, table)])
            self.bars(False, [(names, table)] + self.pairs)
            self.bars(False, self.pairs[1:] + [(names, table)])
        self.bars(False, self.pairs + [(["c", "b", "a"], self.three[1])])
        for thing in NO_NAMES:
            for names in [[thing], ["a", thing], [thing, "b"], ["a", "b", thing]]:
                self.bars(False, self.pairs + [(names, table)])

    def test_a_table_that_does_not_bar(self):
        for place, (names, table) in enumerate(self.pairs):
            others = self.pairs[:place] + self.pairs[place + 1:]
            for wrong in [[], table[1:], table + table[:1], [row[:2] + (row[2] + 1,) for row in table],
                          shut(ALIKE, "abc", 5), shut(ALIKE, names, 5), shut(ALIKE, names, None)]:
                self.bars(False, others + [(names, wrong)])
                self.bars(False, self.pairs + [(names, wrong)])

    def test_a_set_that_is_not_overfull(self):
        self.bars(False, self.pairs + [(["a"], shut(ALIKE, "a", 4))])
        self.bars(False, self.pairs + [([], shut(ALIKE, "", 4))])
        # Each by itself breaks the bound -1, so no number of vats keeps it.
        for many in (1, 2, 3):
            self.bars(True, [(["a"], shut(ALIKE, "a", -1))], many, -1)
            self.bars(False, [(["a"], shut(ALIKE, "a", -1))], many, 0)

    def test_tables_of_several_hues(self):
        works = BY_HAND.works()
        sets = [(["a", "c"], shut(BY_HAND, "ac", 0))]
        self.assertIs(vats_bar(works, 1, 0, sets), True)
        self.assertIs(vats_bar(works, 2, 0, sets), False)
        self.assertIs(vats_bar(works, 1, 0, [(["a", "c"], soonest(works, 0))]), False)

    def test_what_is_handed_in_stays(self):
        sets = self.pairs + [self.three]
        ahead = copy.deepcopy(sets)
        self.bars(True, sets)
        self.bars(False, sets, 3)
        self.assertEqual(sets, ahead)
        dealing = [["b", "a"], ["c"]]
        self.assertEqual(vat_lateness(self.works, dealing), 5)
        self.assertEqual(dealing, [["b", "a"], ["c"]])


class OwnListsTest(unittest.TestCase):
    def test_told_lists_are_the_asker_s_own(self):
        for given in small_ones(1, 3):
            works = given.works()
            ahead = told_of(works)
            for many in (1, 2, 3):
                check_own_lists(self, lambda: dealt_least(works, many))
                for bound in given.bounds():
                    check_own_lists(self, lambda: dealt(works, many, bound))
            self.assertEqual(told_of(works), ahead)

    def test_empty_lists_are_not_one(self):
        for works, bound in [(Works(TWO, []), 0), (Works(TWO, [("a", 0, 1, 1, 1)]), None)]:
            for word, dealing in [dealt(works, 3, bound)]:
                dealing[1].append("spoiled")
                self.assertEqual(sum(names == ["spoiled"] for names in dealing), 1)

    def test_the_same_for_like_works(self):
        check_like_works(self, [lambda works, bound: dealt(works, 2, bound), lambda works, bound: dealt_least(works, 3)])


class OneVatTest(unittest.TestCase):
    def test_a_dealing_just_where_a_plan(self):
        for given in small_ones(1):
            for bound in given.bounds():
                word = plan_for(given.works(), bound)[0]
                self.assertEqual(dealt(given.works(), 1, bound)[0], "dealing" if word == "plan" else "overfull")


if __name__ == "__main__":
    unittest.main()
