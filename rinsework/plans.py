"""Lists of names of works: how they are done, how late they are, what they cost."""

from rinsework.cloths import hue_of, is_kept, late_by, length_of, weight_of
from rinsework.errors import NoPlan


# What is no name of the works is found first: it may be a thing that no set takes.
def are_names(works, names):
    if not isinstance(names, list):
        return False
    known = works.names()
    return all([thing in known for thing in names]) and len(set(names)) == len(names)


def check_names(works, names):
    if not are_names(works, names):
        raise NoPlan()


def is_plan(works, names):
    return are_names(works, names) and len(names) == len(works.names())


def done_rows(works, names):
    check_names(works, names)
    start = works.start()
    last = start[0]
    time = start[1]
    rows = []
    for name in names:
        cloth = works.cloth(name)
        begin = time + works.rinse(last, hue_of(cloth))
        time = begin + length_of(cloth)
        last = hue_of(cloth)
        rows.append((name, begin, time))
    return rows


# The cloths of a list with their ends, in order.
def ended_cloths(works, names):
    return [(works.cloth(name), end) for name, begin, end in done_rows(works, names)]


def end_of(works, names):
    rows = done_rows(works, names)
    return rows[-1][2] if rows else works.start()[1]


def cost_of(works, names):
    return sum([weight_of(cloth) * end for cloth, end in ended_cloths(works, names)])


def lateness(works, names):
    return max([late_by(cloth, end) for cloth, end in ended_cloths(works, names)], default=None)


def keeps(works, names, bound):
    return all([is_kept(cloth, end, bound) for cloth, end in ended_cloths(works, names)])


def late_ones(works, names):
    return [name for name, begin, end in done_rows(works, names) if late_by(works.cloth(name), end) > 0]


def runs_of(works, names):
    check_names(works, names)
    runs = []
    last = None
    for name in names:
        hue = hue_of(works.cloth(name))
        if hue != last:
            runs.append([])
        runs[-1].append(name)
        last = hue
    return runs
