"""Rinses between hues: what they are, the sums of ways, and the least ones.

The list of the fresh vat is the last one, so the hue -1 finds it as an index.
"""

from rinsework.errors import NoRinses
from rinsework.words import is_whole

MOST_HUES = 4


def is_rinse_row(row, hues):
    if not isinstance(row, list) or len(row) != hues:
        return False
    return all([is_whole(number) and number >= 0 for number in row])


def check_rinses(rinses):
    if not isinstance(rinses, list):
        raise NoRinses()
    hues = len(rinses) - 1
    if not 1 <= hues <= MOST_HUES:
        raise NoRinses()
    if not all([is_rinse_row(row, hues) for row in rinses]):
        raise NoRinses()


# Below, a summed way is a tuple (sum, way).
def straight_ways(row):
    return [(number, [hue]) for hue, number in enumerate(row)]


def joined(way, onward):
    return (way[0] + onward[0], way[1] + onward[1])


# The one at hand stays where both are alike, so no way has a needless turn.
def lesser(way, other):
    return other if other[0] < way[0] else way


def ways_through(ways, hue, onward):
    return [lesser(way, joined(ways[hue], more)) for way, more in zip(ways, onward)]


# One hue after the other is let in as a stop between. No rinse is below 0, so
# a way that comes to one stop again is never less than the one without that turn.
def least_ways(rinses):
    table = [straight_ways(row) for row in rinses]
    for hue in range(len(rinses) - 1):
        onward = table[hue]
        table = [ways_through(ways, hue, onward) for ways in table]
    return table


def sums_of(ways):
    return [way[0] for way in ways]


def least_rinses(rinses):
    check_rinses(rinses)
    return [sums_of(ways) for ways in least_ways(rinses)]


def least_way(rinses, first, last):
    check_rinses(rinses)
    return least_ways(rinses)[first][last][1]


def way_sum(rinses, first, hues):
    check_rinses(rinses)
    total = 0
    before = first
    for hue in hues:
        total += rinses[before][hue]
        before = hue
    return total
