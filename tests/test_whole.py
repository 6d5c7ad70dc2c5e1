"""Points 2, 4, 5, 6 and 12 over the whole program: the interface, and that the answers hold together."""

import copy
import importlib
import inspect
import unittest

from rinsework.desk import Desk
from rinsework.errors import RinseError
from rinsework.house import House
from rinsework.lates import bars_late, fewest
from rinsework.latest import latest, safe
from rinsework.moves import in_dues, in_steep, to_dues, to_steep, walked
from rinsework.plans import cost_of, end_of, keeps, late_ones, lateness
from rinsework.prices import cheapest, holds_up
from rinsework.promises import room_for, soonest_due
from rinsework.rinses import least_rinses
from rinsework.stair import least_late, stair, stands
from rinsework.tables import bars, plan_for, soonest
from rinsework.texts import read_works, works_text
from rinsework.trays import tray_end, tray_lateness
from rinsework.traytables import tray_bars, tray_kept, tray_least
from rinsework.vats import dealt, dealt_least, vat_lateness, vats_bar
from rinsework.works import Works
from tests.made import GREAT, Given, lists_in, made, small_ones, spoil, told_of

FUNCTIONS = """
words: is_name(thing) is_whole(thing)
rinses: least_rinses(rinses) least_way(rinses,first,last) way_sum(rinses,first,hues)
plans: done_rows(works,names) end_of(works,names) cost_of(works,names) lateness(works,names) keeps(works,names,bound)
plans: late_ones(works,names) runs_of(works,names) is_plan(works,names)
moves: walked(names,moves) to_dues(works,names) to_steep(works,names) in_dues(works,names) in_steep(works,names)
tables: soonest(works,bound) plan_for(works,bound) bars(works,bound,table,end=None)
latest: latest(works,bound,end=None) safe(works,bound)
stair: stair(works) stands(works,corners,walls) least_late(works)
promises: soonest_due(works,bound,name,hue,length) room_for(works,bound,name,hue,due)
prices: cheapest(works) holds_up(works,cost,prices)
lates: fewest(works) bars_late(works,many,table)
trays: tray_rows(works,trays) tray_end(works,trays) tray_lateness(works,trays) in_tray_order(works,trays)
trays: tray_walked(works,trays,moves) trays_to_dues(works,trays)
traytables: tray_kept(works,bound) tray_bars(works,bound,table,end=None) tray_least(works)
vats: vat_lateness(works,dealing) dealt(works,many,bound) vats_bar(works,many,bound,sets) dealt_least(works,many)
texts: works_text(works) read_works(text)
"""
METHODS = {
    Works: "hues() rinses() rinse(first,then) tray_rinse(first,then) start() names() cloth(name) due_row(hue) steep_row(hue)"
           " put(cloth) without(name) only(names) begun(names)",
    House: "put(cloth) drop(name) work(name) wait(time) back() works() done() worst()",
    Desk: "say(row)",
}
MAKINGS = {Works: "(rinses,cloths,last=None,time=0)", House: "(rinses,last=None,time=0)", Desk: "()"}


def form_of(function):
    return str(inspect.signature(function)).replace(" ", "").replace("(self,", "(").replace("(self)", "()")


def askings(given):
    """Everything that tells something of works alone, or of works and a bound."""
    bound = given.least_late() if given.names else 0
    ones = [stair, least_late, cheapest, fewest, tray_least, works_text]
    twos = [soonest, plan_for, latest, safe, tray_kept]
    asks = [(ask, ()) for ask in ones] + [(ask, (each,)) for ask in twos for each in (bound, bound - 1, None)]
    asks += [(dealt_least, (many,)) for many in (1, 2, 3)] + [(dealt, (2, each)) for each in (bound, bound - 5, None)]
    asks += [(soonest_due, (each, "q", 0, 3)) for each in (bound - 1, bound, bound + 9)]
    return asks + [(room_for, (each, "q", 0, 9)) for each in (bound - 1, bound, bound + 90)]


class InterfaceTest(unittest.TestCase):
    def test_functions(self):
        for row in FUNCTIONS.strip().split("\n"):
            module, forms = row.split(": ")
            for form in forms.split(" "):
                name = form.partition("(")[0]
                function = getattr(importlib.import_module("rinsework." + module), name)
                self.assertEqual(name + form_of(function), form)

    def test_methods(self):
        for kind, forms in METHODS.items():
            for form in forms.split(" "):
                name = form.partition("(")[0]
                self.assertEqual(name + form_of(getattr(kind, name)), form)

    def test_makings(self):
        for kind, form in MAKINGS.items():
            self.assertEqual(form_of(kind.__init__), form)

    def test_refusals_stand_straight_under_one(self):
        errors = importlib.import_module("rinsework.errors")
        kinds = [kind for name, kind in vars(errors).items() if inspect.isclass(kind) and kind is not RinseError]
        self.assertEqual((len(kinds), RinseError.__bases__), (14, (ValueError,)))
        self.assertEqual([kind.__bases__ for kind in kinds], [(RinseError,)] * 14)


class HoldTogetherTest(unittest.TestCase):
    def setUp(self):
        self.some = [given for given in small_ones(3) if given.names]

    def test_starts_of_both_kinds_are_looked_at(self):
        self.assertGreater(sum(given.last == -1 for given in self.some), 20)
        self.assertGreater(sum(given.last >= 0 and given.time > 0 for given in self.some), 20)

    def test_the_stair_and_the_least_lateness(self):
        for given in self.some:
            works = given.works()
            corners, walls = stair(works)
            late, plan, table = least_late(works)
            self.assertEqual((corners[0][0], late), (late, given.least_late()))
            self.assertEqual(corners[-1][1], min(given.end(order) for order in given.orders()))
            self.assertTrue(stands(works, corners, walls) and bars(works, late - 1, table))

    def test_a_plan_is_told_just_where_the_bound_is_no_less(self):
        for given in self.some:
            works = given.works()
            late = least_late(works)[0]
            for bound in given.bounds() + [late - 1, late, late + 1, -GREAT * 9, GREAT * 9]:
                kept = bound is None or bound >= late
                self.assertEqual(plan_for(works, bound)[0], "plan" if kept else "shut")
                self.assertEqual(bars(works, bound, soonest(works, bound)), not kept)
                self.assertEqual(safe(works, bound) != [], kept)
                times = {row[:2]: row[2] for row in latest(works, bound)}
                time = times[(0,) * given.hues, given.last]
                self.assertEqual(time is None or time >= given.time, kept)

    def test_no_cloth_is_late_just_where_nought_can_be_kept(self):
        seen = {True: 0, False: 0}
        for given in self.some:
            works = given.works()
            many, plan, table = fewest(works)
            self.assertEqual(many == 0, plan_for(works, 0)[0] == "plan")
            self.assertEqual(many == 0, least_late(works)[0] <= 0)
            self.assertEqual(many, len(late_ones(works, plan)))
            self.assertTrue(bars_late(works, many, table))
            seen[many == 0] += 1
        self.assertGreater(min(seen.values()), 5)

    def test_one_vat_as_one_behind_the_other_and_more_never_later(self):
        for given in self.some:
            works = given.works()
            late = least_late(works)[0]
            for many in (1, 2, 3):
                least, dealing, sets = dealt_least(works, many)
                self.assertEqual(vat_lateness(works, dealing), least)
                self.assertTrue(vats_bar(works, many, least - 1, sets))
                self.assertTrue(least == late if many == 1 else least <= late)

    def test_trays_never_less(self):
        for given in self.some:
            works = given.works()
            late, trays, table = tray_least(works)
            self.assertGreaterEqual(late, least_late(works)[0])
            self.assertGreaterEqual(tray_end(works, trays), stair(works)[0][-1][1])
            self.assertTrue(tray_lateness(works, trays) == late and tray_bars(works, late - 1, table))

    def test_no_told_plan_costs_less_than_the_least(self):
        for given in self.some:
            works = given.works()
            cost, plan, prices = cheapest(works)
            self.assertTrue(cost == cost_of(works, plan) and holds_up(works, cost, prices))
            for other in [least_late(works)[1], fewest(works)[1]] + [corner[2] for corner in stair(works)[0]]:
                self.assertGreaterEqual(cost_of(works, other), cost)

    def test_promises_are_kept(self):
        for given in self.some:
            works = given.works()
            late = least_late(works)[0]
            for bound in (late - 1, late, late + 5):
                told = soonest_due(works, bound, "q", 0, 3)
                self.assertEqual(told[0] == "never", bound < late)
                if told[0] == "due":
                    self.assertLessEqual(least_late(works.put(("q", 0, 3, told[1], 1)))[0], bound)
                    self.assertGreater(least_late(works.put(("q", 0, 3, told[1] - 1, 1)))[0], bound)
                    self.assertGreaterEqual(room_for(works, bound, "q", 0, told[1])[1], 3)

    def test_moves_lead_each_told_plan_to_order(self):
        for given in self.some:
            works = given.works()
            for plan in [cheapest(works)[1], fewest(works)[1], least_late(works)[1], given.names]:
                dues = walked(plan, to_dues(works, plan))
                steep = walked(plan, to_steep(works, plan))
                self.assertTrue(in_dues(works, dues) and in_steep(works, steep))
                self.assertLessEqual(lateness(works, dues), lateness(works, plan))
                self.assertLessEqual(end_of(works, dues), end_of(works, plan))
                self.assertLessEqual(cost_of(works, steep), cost_of(works, plan))

    def test_cloths_that_come_and_go_in_a_house(self):
        for given in self.some[:60]:
            house = House(given.rinses, given.last, given.time)
            lates = []
            for cloth in given.cloths:
                house.put(cloth)
                lates.append(least_late(house.works())[0])
            self.assertEqual((lates, lates[-1]), (sorted(lates), given.least_late()))
            for name in given.names[:-1]:
                house.drop(name)
                lates.append(least_late(house.works())[0])
            self.assertEqual(lates[len(given.names) - 1:], sorted(lates[len(given.names) - 1:], reverse=True))

    def test_a_told_plan_is_worked_in_a_house(self):
        for given in self.some:
            late, plan, table = least_late(given.works())
            house = House(given.rinses, given.last, given.time)
            for cloth in given.cloths:
                house.put(cloth)
            for name in plan:
                self.assertIn(name, safe(house.works(), late))
                house.work(name)
            self.assertEqual((house.worst(), house.done()), (late, given.done(plan)))

    def test_without_cloths(self):
        for last, time in [(-1, 0), (1, 7)]:
            works = Works([[5, 3], [4, 5], [1, 2]], [], last, time)
            told = [least_late(works), tray_least(works), dealt_least(works, 2), stair(works), fewest(works),
                    cheapest(works)[:2], plan_for(works, -5), tray_kept(works, -5), safe(works, 5)]
            self.assertEqual(told, [None, None, None, ([], []), (0, [], []), (0, []), ("plan", []), ("trays", []), []])


class LeastRinsesTest(unittest.TestCase):
    def test_the_least_ones_tell_the_same(self):
        # Works with the least rinses in the place of the given ones, at which only the text differs.
        for given in [made(seed, 4, hues, 9) for seed in range(4) for hues in (2, 3, 4)]:
            least = Given(least_rinses(given.rinses), given.cloths, given.last, given.time)
            for ask, more in askings(given):
                if ask != works_text:
                    self.assertEqual(ask(given.works(), *more), ask(least.works(), *more))


class OverTheWholeTest(unittest.TestCase):
    def test_all_that_is_told_is_the_asker_s_own(self):
        for given in small_ones(1, 3):
            works = given.works()
            ahead = told_of(works)
            told = [ask(works, *more) for ask, more in askings(given)]
            kept = copy.deepcopy(told)
            lists = [each for answer in told for each in lists_in(answer)]
            self.assertEqual(len({id(each) for each in lists}), len(lists))
            for place, (ask, more) in enumerate(askings(given)):
                spoil(told[place])
                self.assertEqual(told[place + 1:], kept[place + 1:])
                self.assertEqual(ask(works, *more), kept[place])
            self.assertEqual(told_of(works), ahead)

    def test_the_same_in_any_order_of_asking(self):
        for given in small_ones(1, 3):
            works = given.works()
            first = [ask(works, *more) for ask, more in askings(given)]
            again = [ask(given.works(), *more) for ask, more in reversed(askings(given))]
            self.assertEqual(first, again[::-1])

    def test_what_was_told_may_be_handed_in_again(self):
        # Of thirty figures are what was handed in; what is told of it is greater, and is looked at all the same.
        for given in [made(seed, 4, hues, GREAT) for seed in range(3) for hues in (1, 2, 4)]:
            works = given.works()
            late, plan, table = least_late(works)
            self.assertGreater(max(abs(late), end_of(works, plan)), GREAT)
            self.assertTrue(keeps(works, plan, late) and bars(works, late - 1, table))
            house = House(given.rinses)
            house.wait(end_of(works, plan))
            self.assertEqual(house.works().start(), (-1, end_of(works, plan)))

    def test_texts_there_and_back_tell_the_same(self):
        for given in [made(seed, 4, hues, 30) for seed in range(3) for hues in (1, 2, 4)]:
            again = read_works(works_text(given.works()))
            for ask, more in askings(given):
                self.assertEqual(ask(again, *more), ask(given.works(), *more))


if __name__ == "__main__":
    unittest.main()
