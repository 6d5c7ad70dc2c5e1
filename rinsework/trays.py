"""Trays that come out whole: how trayed plans are done, and moves of one cloth that lead to due order."""

from rinsework.cloths import due_of, hue_of, length_of
from rinsework.errors import NoMove, NoPlan
from rinsework.moves import due_rows
from rinsework.plans import is_plan


def cloths_of(works, tray):
    return [works.cloth(name) for name in tray]


def tray_hue(works, tray):
    return hue_of(works.cloth(tray[0]))


def tray_length(works, tray):
    return sum([length_of(cloth) for cloth in cloths_of(works, tray)])


# All cloths of a tray end with it, so the one that is due first is the latest.
def tray_due(works, tray):
    return min([due_of(cloth) for cloth in cloths_of(works, tray)])


def is_of_one_hue(works, tray):
    return all([hue_of(cloth) == tray_hue(works, tray) for cloth in cloths_of(works, tray)])


def are_full_lists(trays):
    return isinstance(trays, list) and all([isinstance(tray, list) and len(tray) > 0 for tray in trays])


def check_trays(works, trays):
    if not are_full_lists(trays) or not is_plan(works, sum(trays, start=[])):
        raise NoPlan()
    if not all([is_of_one_hue(works, tray) for tray in trays]):
        raise NoPlan()


def tray_rows(works, trays):
    check_trays(works, trays)
    start = works.start()
    last = start[0]
    time = start[1]
    rows = []
    for tray in trays:
        hue = tray_hue(works, tray)
        begin = time + works.tray_rinse(last, hue)
        time = begin + tray_length(works, tray)
        last = hue
        rows.append((begin, time))
    return rows


def tray_end(works, trays):
    rows = tray_rows(works, trays)
    return rows[-1][1] if rows else works.start()[1]


def tray_lateness(works, trays):
    rows = tray_rows(works, trays)
    return max([row[1] - tray_due(works, tray) for row, tray in zip(rows, trays)], default=None)


def place_of(trays, name):
    for place, tray in enumerate(trays):
        if name in tray:
            return place
    return None


def tray_without(tray, name):
    return [other for other in tray if other != name]


def tray_moved(trays, move):
    found = [tray_without(tray, move[0]) for tray in trays]
    found[move[1]].append(move[0])
    return [tray for tray in found if tray]


def is_tray_move(works, trays, move):
    at = place_of(trays, move[0])
    to = move[1]
    if at is None or at == to or not 0 <= to < len(trays):
        return False
    return tray_hue(works, trays[at]) == tray_hue(works, trays[to])


def tray_walked(works, trays, moves):
    check_trays(works, trays)
    found = [list(tray) for tray in trays]
    for number, move in enumerate(moves):
        if not is_tray_move(works, found, move):
            raise NoMove(number)
        found = tray_moved(found, move)
    return found


# A cloth in a tray ahead of that of its neighbour ahead in the due row goes to the
# neighbour's tray. That tray ends no later for it, the ones between sooner, and one
# that goes leaves no longer rinse behind; the cloth is due no sooner than its
# neighbour, so it is no later than that one was.
def next_move(works, trays):
    for row in due_rows(works):
        for ahead, behind in zip(row, row[1:]):
            if place_of(trays, behind) < place_of(trays, ahead):
                return (behind, place_of(trays, ahead))
    return None


def in_tray_order(works, trays):
    check_trays(works, trays)
    return next_move(works, trays) is None


# The row is in order up to the moved cloth then, so each cloth is moved at most once.
def trays_to_dues(works, trays):
    check_trays(works, trays)
    found = trays
    moves = []
    move = next_move(works, found)
    while move is not None:
        moves.append(move)
        found = tray_moved(found, move)
        move = next_move(works, found)
    return moves
