"""Tables: the soonest rows of states, and whether a table bars a bound and an end.

A row is a tuple (counts, last, time), its state the tuple (counts, last).
"""

from rinsework.cloths import hue_of, is_kept, length_of, name_of
from rinsework.moves import due_rows


def state_of(row):
    return (row[0], row[1])


def time_of(row):
    return row[2]


def start_row(works):
    start = works.start()
    return (tuple([0] * works.hues()), start[0], start[1])


def all_counts(works):
    return tuple([len(works.due_row(hue)) for hue in range(works.hues())])


def counts_with(counts, hue, more):
    return tuple([done + more if place == hue else done for place, done in enumerate(counts)])


def row_behind(works, row, cloth):
    hue = hue_of(cloth)
    return (counts_with(row[0], hue, 1), hue, time_of(row) + works.rinse(row[1], hue) + length_of(cloth))


# For each hue with cloths left, the next cloth of its row of names and the row behind it.
def steps_along(works, rows, row):
    steps = []
    for hue, done in enumerate(row[0]):
        if done < len(rows[hue]):
            cloth = works.cloth(rows[hue][done])
            steps.append((cloth, row_behind(works, row, cloth)))
    return steps


def steps_from(works, row):
    return steps_along(works, due_rows(works), row)


def is_sooner(row, other):
    return other is None or time_of(row) < time_of(other)


# A front holds rows of so many cloths done, by their states, each with the names
# that lead to it.
def front_behind(works, bound, front):
    rows = {}
    ways = {}
    for row, names in front:
        for cloth, behind in steps_from(works, row):
            state = state_of(behind)
            if is_kept(cloth, time_of(behind), bound) and is_sooner(behind, rows.get(state)):
                rows[state] = behind
                ways[state] = names + [name_of(cloth)]
    return [(rows[state], ways[state]) for state in rows]


def soonest_ways(works, bound):
    found = []
    front = [(start_row(works), [])]
    while front:
        found.extend(front)
        front = front_behind(works, bound, front)
    return found


def soonest(works, bound):
    return sorted([row for row, names in soonest_ways(works, bound)])


# Of ways to the soonest rows, each with its plan so far: a plan, or the table of the rows.
def plan_or_table(works, word, ways):
    plans = [plan for row, plan in ways if row[0] == all_counts(works)]
    if plans:
        return (word, plans[0])
    return ("shut", sorted([row for row, plan in ways]))


# Sooner is never worse for what is still to be done, and each plan is led to one
# in due order: so where no soonest row has all cloths done, no plan keeps the bound.
def plan_for(works, bound):
    return plan_or_table(works, "plan", soonest_ways(works, bound))


def is_state_of(works, counts, last):
    return all([0 <= done <= many for done, many in zip(counts, all_counts(works))]) and -1 <= last < works.hues()


# The numbers of rows by their states; None where they are not of unlike states of the works.
def by_states(works, rows):
    found = dict([((counts, last), number) for counts, last, number in rows])
    if len(found) != len(rows) or not all([is_state_of(works, counts, last) for counts, last in found]):
        return None
    return found


def has_row(times, row):
    state = state_of(row)
    return state in times and times[state] <= time_of(row)


def has_rows(times, rows):
    return all([has_row(times, row) for row in rows])


def is_too_soon(works, row, end):
    return row[0] == all_counts(works) and (end is None or time_of(row) < end)


# Of a row, behind tells the rows that are come to from it within the bound.
def bars_by(works, behind, table, end):
    times = by_states(works, table)
    if times is None or not has_row(times, start_row(works)):
        return False
    if any([is_too_soon(works, row, end) for row in table]):
        return False
    return all([has_rows(times, behind(row)) for row in table])


def kept_behind(works, bound, row):
    return [behind for cloth, behind in steps_from(works, row) if is_kept(cloth, time_of(behind), bound)]


def bars(works, bound, table, end=None):
    return bars_by(works, lambda row: kept_behind(works, bound, row), table, end)
