"""The stair: the pairs of greatest lateness and end that no plan undercuts, with plans, and with walls beneath.

A way to a state has the form of a corner: a tuple (late, time, names), late None where no cloth is done yet.
"""

from rinsework.cloths import late_by, name_of
from rinsework.plans import end_of, is_plan, lateness
from rinsework.tables import bars, soonest, start_row, state_of, steps_from, time_of


def greater_late(late, other):
    return other if late is None else max(late, other)


def way_behind(way, cloth, row):
    return (greater_late(way[0], late_by(cloth, time_of(row))), time_of(row), way[2] + [name_of(cloth)])


# A way that is no less late and no sooner than another one to the same state is
# never needed: whatever goes on from it goes on from the other one as well.
def best_ways(ways):
    best = []
    for way in sorted(ways, key=lambda each: (each[0], each[1])):
        if not best or way[1] < best[-1][1]:
            best.append(way)
    return best


def ways_behind(works, front):
    found = {}
    for state, ways in front.items():
        for way in ways:
            for cloth, row in steps_from(works, (state[0], state[1], way[1])):
                found.setdefault(state_of(row), []).append(way_behind(way, cloth, row))
    return dict([(state, best_ways(ways)) for state, ways in found.items()])


def corners_of(works):
    if not works.names():
        return []
    start = start_row(works)
    front = {state_of(start): [(None, time_of(start), [])]}
    for turn in range(len(works.names())):
        front = ways_behind(works, front)
    ended = []
    for ways in front.values():
        ended.extend(ways)
    return best_ways(ended)


# The bound and the end that each wall is to bar.
def barred_by_walls(corners):
    if not corners:
        return []
    bounds = [late - 1 for late, end, plan in corners] + [None]
    ends = [None] + [end for late, end, plan in corners]
    return list(zip(bounds, ends))


def stair(works):
    corners = corners_of(works)
    return (corners, [soonest(works, bound) for bound, end in barred_by_walls(corners)])


def is_stair(corners):
    pairs = list(zip(corners, corners[1:]))
    return all([one[0] < other[0] and one[1] > other[1] for one, other in pairs])


def is_corner(works, corner):
    plan = corner[2]
    return is_plan(works, plan) and lateness(works, plan) == corner[0] and end_of(works, plan) == corner[1]


def stands(works, corners, walls):
    barred = barred_by_walls(corners)
    if len(walls) != len(barred) or (works.names() and not corners):
        return False
    if not is_stair(corners) or not all([is_corner(works, corner) for corner in corners]):
        return False
    return all([bars(works, pair[0], wall, pair[1]) for pair, wall in zip(barred, walls)])


def least_late(works):
    corners = corners_of(works)
    if not corners:
        return None
    late = corners[0][0]
    return (late, corners[0][2], soonest(works, late - 1))
