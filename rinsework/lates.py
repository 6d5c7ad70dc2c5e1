"""Late ones: the fewest late cloths, and whether lated rows bar fewer.

A lated row is a tuple (counts, last, late, time), its state all of it but the time.
"""

from rinsework.cloths import is_kept, name_of
from rinsework.tables import all_counts, is_state_of, start_row, steps_from, time_of


def lated_state(row):
    return row[:3]


def lated_time(row):
    return row[3]


def lated_start(works):
    start = start_row(works)
    return (start[0], start[1], 0, time_of(start))


# For each hue with cloths left, the next cloth and the row behind it, let go, and
# done where it is not late then.
def lated_steps(works, row):
    steps = []
    for cloth, behind in steps_from(works, (row[0], row[1], lated_time(row))):
        steps.append((cloth, (behind[0], row[1], row[2] + 1, lated_time(row))))
        if is_kept(cloth, time_of(behind), 0):
            steps.append((cloth, (behind[0], behind[1], row[2], time_of(behind))))
    return steps


# A way is a tuple (row, done, gone), done and gone being names in their order.
def ways_on(works, way):
    ways = []
    for cloth, behind in lated_steps(works, way[0]):
        name = [name_of(cloth)]
        if behind[2] > way[0][2]:
            ways.append((behind, way[1], way[2] + name))
        else:
            ways.append((behind, way[1] + name, way[2]))
    return ways


# Of the ways to one state the soonest is enough: whatever goes on from a later one
# goes on from it as well.
def lated_front(works, front):
    found = {}
    for way in front:
        for other in ways_on(works, way):
            state = lated_state(other[0])
            if state not in found or lated_time(other[0]) < lated_time(found[state][0]):
                found[state] = other
    return list(found.values())


# Those that are let go are done behind all others, which are no later for it.
def fewest(works):
    front = [(lated_start(works), [], [])]
    rows = []
    for turn in range(len(works.names())):
        rows.extend([way[0] for way in front])
        front = lated_front(works, front)
    best = min(front, key=lambda way: way[0][2])
    many = best[0][2]
    return (many, best[1] + best[2], [row for row in rows if row[2] < many])


def is_lated_row(works, many, row):
    return is_state_of(works, row[0], row[1]) and 0 <= row[2] < many and row[0] != all_counts(works)


def has_lated_row(times, row):
    state = lated_state(row)
    return state in times and times[state] <= lated_time(row)


def goes_on(works, many, times, row):
    behind = [other for cloth, other in lated_steps(works, row) if other[2] < many]
    return all([has_lated_row(times, other) for other in behind])


def bars_late(works, many, table):
    times = dict([(lated_state(row), lated_time(row)) for row in table])
    if len(times) != len(table) or not all([is_lated_row(works, many, row) for row in table]):
        return False
    if many > 0 and not has_lated_row(times, lated_start(works)):
        return False
    return all([goes_on(works, many, times, row) for row in table])
