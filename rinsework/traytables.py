"""Tables with trays: a trayed plan or a table for a bound, and the least lateness with trays.

Rows are those of rinsework.tables; a step from one does a whole tray.
"""

from rinsework.cloths import is_kept, late_by, length_of
from rinsework.latest import states_of
from rinsework.moves import due_rows
from rinsework.stair import best_ways, greater_late
from rinsework.tables import all_counts, bars_by, counts_with, is_sooner, plan_or_table, start_row, state_of, time_of


# The trays of the next one, two and more cloths of a hue, each with the row behind it.
def hue_steps(works, row, hue, names):
    end = time_of(row) + works.tray_rinse(row[1], hue)
    steps = []
    for number, name in enumerate(names, start=1):
        end += length_of(works.cloth(name))
        steps.append((names[:number], (counts_with(row[0], hue, number), hue, end)))
    return steps


def tray_steps(works, row):
    steps = []
    for hue, names in enumerate(due_rows(works)):
        steps.extend(hue_steps(works, row, hue, names[row[0][hue]:]))
    return steps


# The first cloth of a tray is due first of all in it, so it speaks for the tray.
def kept_steps(works, bound, row):
    steps = tray_steps(works, row)
    return [(tray, behind) for tray, behind in steps if is_kept(works.cloth(tray[0]), time_of(behind), bound)]


# A state behind is sorted behind, so each row is the soonest one when it is gone on from.
def soonest_trays(works, bound):
    start = start_row(works)
    rows = {state_of(start): start}
    ways = {state_of(start): []}
    for state in states_of(works):
        steps = kept_steps(works, bound, rows[state]) if state in rows else []
        for tray, behind in steps:
            if is_sooner(behind, rows.get(state_of(behind))):
                rows[state_of(behind)] = behind
                ways[state_of(behind)] = ways[state] + [tray]
    return [(rows[state], ways[state]) for state in rows]


def tray_kept(works, bound):
    return plan_or_table(works, "trays", soonest_trays(works, bound))


def tray_bars(works, bound, table, end=None):
    def behind(row):
        return [other for tray, other in kept_steps(works, bound, row)]

    return bars_by(works, behind, table, end)


# A way to a state is a tuple (late, time, trays), late None where no tray is done yet.
def tray_ways(works):
    start = start_row(works)
    found = {state_of(start): [(None, time_of(start), [])]}
    for state in states_of(works):
        ways = best_ways(found.get(state, []))
        for late, time, trays in ways:
            for tray, row in tray_steps(works, (state[0], state[1], time)):
                tray_late = late_by(works.cloth(tray[0]), time_of(row))
                way = (greater_late(late, tray_late), time_of(row), trays + [tray])
                found.setdefault(state_of(row), []).append(way)
    return found


def tray_least(works):
    if not works.names():
        return None
    ended = []
    for state, ways in tray_ways(works).items():
        if state[0] == all_counts(works):
            ended.extend(ways)
    best = best_ways(ended)[0]
    return (best[0], best[2], sorted([row for row, trays in soonest_trays(works, best[0] - 1)]))
