"""Prices of states by the steep rows: the least cost, and whether priced rows hold up a cost.

A priced row is a tuple (counts, last, price); counts tell how many of each steep row are done.
"""

from rinsework.cloths import name_of, weight_of
from rinsework.latest import states_of
from rinsework.moves import steep_rows
from rinsework.tables import all_counts, by_states, start_row, state_of, steps_along, time_of


def weight_left(works, counts):
    weight = 0
    for row, done in zip(steep_rows(works), counts):
        weight += sum([weight_of(works.cloth(name)) for name in row[done:]])
    return weight


# All that are left wait while the next one is rinsed for and dyed. The row begins
# at the time 0, so the time of the one behind is how long that takes.
def priced_steps(works, state):
    weight = weight_left(works, state[0])
    steps = steps_along(works, steep_rows(works), (state[0], state[1], 0))
    return [(name_of(cloth), state_of(behind), time_of(behind) * weight) for cloth, behind in steps]


# A state behind is sorted behind, so its price is known when it is asked for.
def least_prices(works):
    prices = {}
    for state in reversed(states_of(works)):
        steps = priced_steps(works, state)
        prices[state] = min([cost + prices[behind] for name, behind, cost in steps], default=0)
    return prices


def cheap_plan(works, prices):
    plan = []
    state = state_of(start_row(works))
    while state[0] != all_counts(works):
        step = min(priced_steps(works, state), key=lambda each: each[2] + prices[each[1]])
        plan.append(step[0])
        state = step[1]
    return plan


# What all weights cost up to the start is paid by each plan.
def start_cost(works):
    start = start_row(works)
    return time_of(start) * weight_left(works, start[0])


def cheapest(works):
    prices = least_prices(works)
    cost = start_cost(works) + prices[state_of(start_row(works))]
    rows = [(counts, last, prices[(counts, last)]) for counts, last in states_of(works)]
    return (cost, cheap_plan(works, prices), rows)


def is_held_up(works, prices, state):
    if state[0] == all_counts(works):
        return prices[state] <= 0
    steps = priced_steps(works, state)
    return all([behind in prices and prices[state] <= cost + prices[behind] for name, behind, cost in steps])


def holds_up(works, cost, prices):
    found = by_states(works, prices)
    start = state_of(start_row(works))
    if found is None or start not in found or found[start] < cost - start_cost(works):
        return False
    return all([is_held_up(works, found, state) for state in found])
