"""Tables: the soonest rows of states, and whether a table bars a bound and an end.

A row is a tuple (counts, last, time), its state the tuple (counts, last).
"""

from rinsework.cloths import hue_of, is_kept, length_of, name_of


def state_of(row):
    return (row[0], row[1])


def time_of(row):
    return row[2]


def start_row(works):
    start = works.start()
    return (tuple([0] * works.hues()), start[0], start[1])


def all_counts(works):
    return tuple([len(works.due_row(hue)) for hue in range(works.hues())])


def row_behind(works, row, cloth):
    hue = hue_of(cloth)
    counts = [many + 1 if place == hue else many for place, many in enumerate(row[0])]
    return (tuple(counts), hue, time_of(row) + works.rinse(row[1], hue) + length_of(cloth))


# For each hue with cloths left, the next cloth and the row behind it.
def steps_from(works, row):
    steps = []
    for hue, done in enumerate(row[0]):
        names = works.due_row(hue)
        if done < len(names):
            cloth = works.cloth(names[done])
            steps.append((cloth, row_behind(works, row, cloth)))
    return steps


def is_sooner(row, other):
    return other is None or time_of(row) < time_of(other)


# A front holds rows of so many cloths done, by their states, each with the names
# that lead to it.
def front_behind(works, bound, front):
    rows = {}
    ways = {}
    for row, names in front:
        for cloth, behind in steps_from(works, row):
            state = state_of(behind)
            if is_kept(cloth, time_of(behind), bound) and is_sooner(behind, rows.get(state)):
                rows[state] = behind
                ways[state] = names + [name_of(cloth)]
    return [(rows[state], ways[state]) for state in rows]


def soonest_ways(works, bound):
    found = []
    front = [(start_row(works), [])]
    while front:
        found.extend(front)
        front = front_behind(works, bound, front)
    return found


def soonest(works, bound):
    return sorted([row for row, names in soonest_ways(works, bound)])


# Sooner is never worse for what is still to be done, and each plan is led to one
# in due order: so where no soonest row has all cloths done, no plan keeps the bound.
def plan_for(works, bound):
    ways = soonest_ways(works, bound)
    plans = [names for row, names in ways if row[0] == all_counts(works)]
    if plans:
        return ("plan", plans[0])
    return ("shut", sorted([row for row, names in ways]))


def is_row_of(works, row):
    counts = row[0]
    return all([0 <= done <= many for done, many in zip(counts, all_counts(works))]) and -1 <= row[1] < works.hues()


def has_row(times, row):
    state = state_of(row)
    return state in times and times[state] <= time_of(row)


def goes_on(works, bound, times, row):
    kept = [behind for cloth, behind in steps_from(works, row) if is_kept(cloth, time_of(behind), bound)]
    return all([has_row(times, behind) for behind in kept])


def is_too_soon(works, row, end):
    return row[0] == all_counts(works) and (end is None or time_of(row) < end)


def bars(works, bound, table, end=None):
    if not all([is_row_of(works, row) for row in table]):
        return False
    times = dict([(state_of(row), time_of(row)) for row in table])
    if len(times) != len(table) or not has_row(times, start_row(works)):
        return False
    if any([is_too_soon(works, row, end) for row in table]):
        return False
    return all([goes_on(works, bound, times, row) for row in table])
