"""The latest table: till when a state may be come to; and the cloths that are safe to be done first."""

from rinsework.cloths import due_of
from rinsework.plans import keeps
from rinsework.tables import all_counts, plan_for, state_of, steps_from, time_of


# Counts are made longer hue by hue, so they stand sorted.
def counts_to(most):
    found = [()]
    for many in most:
        longer = []
        for counts in found:
            longer.extend([counts + (done,) for done in range(many + 1)])
        found = longer
    return found


def lasts_of(works, counts):
    if not any(counts):
        return [works.start()[0]]
    return [hue for hue, done in enumerate(counts) if done > 0]


def states_of(works):
    states = []
    for counts in counts_to(all_counts(works)):
        states.extend([(counts, last) for last in lasts_of(works, counts)])
    return states


def bounded_end(cloth, bound):
    return None if bound is None else bound + due_of(cloth)


# None stands for no limit.
def narrower(limit, other):
    if limit is None or other is None:
        return other if limit is None else limit
    return min(limit, other)


# The row behind comes from one of time 0, so its time is how long the step takes.
def latest_begin(cloth, behind, bound, times):
    limit = narrower(bounded_end(cloth, bound), times[state_of(behind)])
    return None if limit is None else limit - time_of(behind)


def latest_time(works, bound, end, state, times):
    steps = steps_from(works, (state[0], state[1], 0))
    if not steps:
        return end
    begins = [latest_begin(cloth, behind, bound, times) for cloth, behind in steps]
    return None if None in begins else max(begins)


# A state behind has one more in one of its counts, so it is sorted behind: walked
# from the last one on, its time is known when it is asked for.
def latest(works, bound, end=None):
    states = states_of(works)
    times = {}
    for state in reversed(states):
        times[state] = latest_time(works, bound, end, state, times)
    return [(counts, last, times[(counts, last)]) for counts, last in states]


def is_safe(works, bound, name):
    return keeps(works, [name], bound) and plan_for(works.begun([name]), bound)[0] == "plan"


def safe(works, bound):
    return [name for name in works.names() if is_safe(works, bound, name)]
