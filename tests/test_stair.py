"""Points 2, 6 and 50 to 52: the stair with its walls, what stands, the least lateness."""

import copy
import unittest

from rinsework.stair import least_late, stair, stands
from rinsework.tables import bars, soonest
from rinsework.works import Works
from tests.made import GREAT, NO_NAMES, Given, changed, check_own_lists, made, small_ones, told_of

TWO = [[0, 3], [4, 0], [1, 2]]
# With c straight behind a there is one rinse, but b is late by 1; else there are two, and none is late.
BY_HAND = Given([[0, 5], [5, 0], [0, 0]], [("a", 0, 2, 2, 1), ("b", 1, 2, 10, 1), ("c", 0, 2, 30, 1), ("d", 1, 2, 40, 1)])


def asked_walls(corners):
    """The bound and the end of each wall, by the words of point 50."""
    if not corners:
        return []
    between = [(one[0] - 1, ahead[1]) for ahead, one in zip(corners, corners[1:])]
    return [(corners[0][0] - 1, None)] + between + [(None, corners[-1][1])]


# Works whose stair has several corners are the ones at which exchanges can be looked at.
def steps_of(least_many):
    tall = []
    for seed in range(60):
        for hues in (2, 3):
            given = made(seed, 5, hues, 12)
            if len(given.corners()) >= least_many:
                tall.append(given)
    return tall


class StairTest(unittest.TestCase):
    def test_told_by_hand(self):
        corners, walls = stair(BY_HAND.works())
        self.assertEqual(corners, [(0, 18, ["a", "b", "d", "c"]), (1, 13, ["a", "c", "b", "d"])])
        self.assertEqual(len(walls), 3)
        given = Given([[0, 5], [5, 0], [0, 0]], [("a", 0, 2, 2, 1), ("b", 1, 2, 9, 1), ("c", 0, 9, 99, 1)])
        corners, walls = stair(given.works())
        self.assertEqual(corners, [(0, 23, ["a", "b", "c"]), (7, 18, ["b", "a", "c"])])
        self.assertEqual(len(walls), 3)

    def test_without_cloths(self):
        for works in [Works(TWO, []), Works(TWO, [], 1, 9)]:
            self.assertEqual(stair(works), ([], []))

    def test_one_cloth(self):
        works = Works(TWO, [("a", 0, 5, 10, 1)], 1, 3)
        corners, walls = stair(works)
        self.assertEqual(corners, [(2, 12, ["a"])])
        self.assertTrue(bars(works, 1, walls[0]) and bars(works, None, walls[1], 12))
        self.assertEqual(len(walls), 2)

    def test_all_dues_alike(self):
        for given in small_ones(1):
            alike = Given(given.rinses, [cloth[:3] + (7,) + cloth[4:] for cloth in given.cloths], given.last, given.time)
            corners, walls = stair(alike.works())
            self.assertEqual(len(corners), 1 if alike.names else 0)
            for late, end, plan in corners:
                self.assertEqual((late, end), (end - 7, min(alike.end(order) for order in alike.orders())))

    def held(self, given):
        works = given.works()
        told = stair(works)
        self.assertEqual([type(told)] + [type(part) for part in told], [tuple, list, list])
        corners, walls = told
        self.assertEqual([corner[:2] for corner in corners], given.corners())
        for corner in corners:
            late, end, plan = corner
            self.assertEqual((type(corner), type(plan), sorted(plan)), (tuple, list, given.names))
            self.assertEqual((given.late(plan), given.end(plan)), (late, end))
        asked = asked_walls(corners)
        self.assertEqual(len(walls), len(asked))
        for (bound, end), wall in zip(asked, walls):
            self.assertTrue(given.bars(bound, wall, end) and bars(works, bound, wall, end))
        self.assertIs(stands(works, corners, walls), True)

    def test_held_against_all_orders(self):
        for given in small_ones(4) + steps_of(2):
            self.held(given)

    def test_seven_cloths(self):
        for given in [made(2, 7, 3, 9), made(3, 7, 4, GREAT)]:
            self.held(given)

    def test_several_corners_are_looked_at(self):
        self.assertGreater(len(steps_of(2)), 20)
        self.assertGreater(len(steps_of(3)), 3)

    def test_eight_and_ten_cloths_stand(self):
        for many in (8, 10):
            for hues in (1, 2, 4):
                for most in (6, GREAT):
                    works = made(6, many, hues, most).works()
                    corners, walls = stair(works)
                    self.assertIs(stands(works, corners, walls), True)


class StandsTest(unittest.TestCase):
    def setUp(self):
        self.tall = [(given, given.works()) for given in steps_of(2)]

    def falls(self, works, corners, walls):
        self.assertIs(stands(works, corners, walls), False)

    def test_a_corner_left_out(self):
        for given, works in self.tall:
            corners, walls = stair(works)
            for place in range(len(corners)):
                left = corners[:place] + corners[place + 1:]
                self.falls(works, left, walls)
                self.falls(works, left, walls[:place] + walls[place + 1:])
                self.falls(works, left, walls[:place + 1] + walls[place + 2:])
                self.falls(works, left, [soonest(works, bound) for bound, end in asked_walls(left)])

    def test_a_late_or_an_end_changed_by_one(self):
        for given, works in self.tall:
            corners, walls = stair(works)
            for place, (late, end, plan) in enumerate(corners):
                for other in [(late + 1, end, plan), (late - 1, end, plan), (late, end + 1, plan), (late, end - 1, plan)]:
                    self.falls(works, changed(corners, place, other), walls)
                    asked = asked_walls(changed(corners, place, other))
                    self.falls(works, changed(corners, place, other), [soonest(works, bound) for bound, end in asked])

    def test_plans(self):
        for given, works in self.tall:
            corners, walls = stair(works)
            for place, (late, end, plan) in enumerate(corners):
                others = [other[2] for other in corners if other[2] != plan]
                others += [[], plan[:-1], plan + [plan[0]], plan[1:] + plan[1:2], plan[::-1][:3]]
                others += [plan[:-1] + [thing] for thing in NO_NAMES if thing != plan[-1]]
                for other in others:
                    self.falls(works, changed(corners, place, (late, end, other)), walls)

    def test_another_plan_of_the_same_corner(self):
        works = Works([[0], [0]], [("a", 0, 3, 5, 1), ("b", 0, 3, 5, 1)])
        corners, walls = stair(works)
        self.assertEqual(corners[0][:2], (1, 6))
        for plan in (["a", "b"], ["b", "a"]):
            self.assertIs(stands(works, [(1, 6, plan)], walls), True)

    def test_a_wall_left_out_one_too_many_two_exchanged(self):
        for given, works in self.tall:
            corners, walls = stair(works)
            for place in range(len(walls)):
                self.falls(works, corners, walls[:place] + walls[place + 1:])
                self.falls(works, corners, changed(walls, place, []))
                for other in range(len(walls) + 1):
                    self.falls(works, corners, walls[:other] + [walls[place]] + walls[other:])
                for other in range(place):
                    turned = changed(changed(walls, place, walls[other]), other, walls[place])
                    self.falls(works, corners, turned)
            self.falls(works, corners, [])
            self.falls(works, corners, walls + [[]])

    def test_a_row_of_a_wall_left_out_or_later(self):
        for given, works in self.tall[:10]:
            corners, walls = stair(works)
            for place, wall in enumerate(walls):
                for number, (counts, last, time) in enumerate(wall):
                    self.falls(works, corners, changed(walls, place, wall[:number] + wall[number + 1:]))
                    later = changed(wall, number, (counts, last, time + 1))
                    self.falls(works, corners, changed(walls, place, later))
                self.assertIs(stands(works, corners, changed(walls, place, wall[::-1])), True)

    def test_corners_in_another_order(self):
        for given, works in self.tall:
            corners, walls = stair(works)
            turned = corners[::-1]
            self.falls(works, turned, walls)
            self.falls(works, turned, walls[::-1])
            twice = corners[:1] + corners
            self.falls(works, twice, [soonest(works, bound) for bound, end in asked_walls(twice)])

    def test_a_corner_more_of_a_like_late_or_a_like_end(self):
        # All walls bar what they should here; only the stair does not rise, or does not fall.
        seen = {"late": 0, "end": 0}
        for given, works in self.tall[:12]:
            corners = stair(works)[0]
            for order in given.orders():
                one = (given.late(order), given.end(order), order)
                places = [place for place, corner in enumerate(corners) if (one[0] == corner[0]) != (one[1] == corner[1])]
                for place in places:
                    like = "late" if one[0] == corners[place][0] else "end"
                    more = corners[:place] + [one] + corners[place:]
                    more = more if like == "late" else corners[:place + 1] + [one] + corners[place + 1:]
                    walls = [soonest(works, bound) for bound, end in asked_walls(more)]
                    barred = [bars(works, pair[0], wall, pair[1]) for pair, wall in zip(asked_walls(more), walls)]
                    seen[like] += all(barred)
                    self.falls(works, more, walls)
        self.assertGreater(min(seen.values()), 5)

    def test_corners_and_walls_empty(self):
        some = ((0, 0), -1, 0)
        for works in [Works(TWO, []), Works(TWO, [], 1, 4)]:
            self.assertIs(stands(works, [], []), True)
            for walls in [[[]], [[some]], [[], []], [soonest(works, None)]]:
                self.falls(works, [], walls)
            self.falls(works, [(0, 0, [])], [])
            self.falls(works, [(0, works.start()[1], [])], [soonest(works, -1), soonest(works, None)])
        works = Works(TWO, [("a", 0, 5, 10, 1)])
        for walls in [[], [[]], [[some]], [soonest(works, None)]]:
            self.falls(works, [], walls)

    def test_the_stair_of_other_works(self):
        for given, works in self.tall:
            corners, walls = stair(works)
            for name in given.names:
                self.falls(works.without(name), corners, walls)
            later = Works(given.rinses, given.cloths, given.last, given.time + 1)
            self.falls(later, corners, walls)
            self.falls(works.put(("q", 0, 1, 1000, 1)), corners, walls)


class LeastLateTest(unittest.TestCase):
    def test_told_by_hand(self):
        self.assertEqual(least_late(BY_HAND.works())[:2], (0, ["a", "b", "d", "c"]))
        self.assertEqual(least_late(Works([[0], [0]], [("a", 0, 3, -5, 1)], 0, 4))[:2], (12, ["a"]))
        self.assertEqual(least_late(Works([[0], [0]], [("a", 0, 3, 50, 1)], 0, 4))[:2], (-43, ["a"]))

    def test_without_cloths(self):
        self.assertIsNone(least_late(Works(TWO, [])))
        self.assertIsNone(least_late(Works(TWO, [], 1, 5)))

    def test_held_against_all_orders(self):
        for given in small_ones(4):
            works = given.works()
            told = least_late(works)
            if given.names:
                late, plan, table = told
                self.assertEqual((type(told), late), (tuple, given.least_late()))
                self.assertEqual((sorted(plan), given.late(plan)), (given.names, late))
                self.assertTrue(bars(works, late - 1, table) and given.bars(late - 1, table))
            else:
                self.assertIsNone(told)

    def test_cloths_that_come_and_go(self):
        for given in [made(seed, many, hues, most) for seed in range(3) for many in (2, 5, 8) for hues in (1, 2, 4)
                      for most in (4, 30, GREAT)]:
            works = given.works()
            late = least_late(works)[0]
            for name in given.names:
                self.assertLessEqual(least_late(works.without(name))[0], late)
            for hue in range(given.hues):
                for length, due in [(1, 1000), (5, -5), (GREAT, GREAT)]:
                    self.assertGreaterEqual(least_late(works.put(("q", hue, length, due, 1)))[0], late)


class OwnListsTest(unittest.TestCase):
    def test_told_lists_are_the_asker_s_own(self):
        for given in small_ones(1, 4) + steps_of(3)[:3]:
            works = given.works()
            ahead = told_of(works)
            check_own_lists(self, lambda: stair(works))
            check_own_lists(self, lambda: least_late(works))
            self.assertEqual(told_of(works), ahead)

    def test_what_is_handed_in_stays(self):
        for given in steps_of(2)[:5]:
            works = given.works()
            corners, walls = stair(works)
            ahead = copy.deepcopy((corners, walls))
            self.assertIs(stands(works, corners, walls), stands(works, corners, walls))
            self.assertEqual((corners, walls), ahead)


if __name__ == "__main__":
    unittest.main()
