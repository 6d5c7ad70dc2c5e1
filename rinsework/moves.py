"""Moves of one name within a list, and moves that lead to due order and to steep order."""

from rinsework.errors import NoMove
from rinsework.plans import check_names, cost_of


def moved(names, move):
    at = move[0]
    to = move[1]
    others = names[:at] + names[at + 1:]
    return others[:to] + [names[at]] + others[to:]


def is_move(move, many):
    return all([0 <= place < many for place in move])


def walked(names, moves):
    found = list(names)
    for number, move in enumerate(moves):
        if not is_move(move, len(found)):
            raise NoMove(number)
        found = moved(found, move)
    return found


def due_rows(works):
    return [works.due_row(hue) for hue in range(works.hues())]


def steep_rows(works):
    return [works.steep_row(hue) for hue in range(works.hues())]


# The places of two names of a row, none of the row between them, that stand the
# other way round in the row.
def turned_in(row, names):
    places = [place for place, name in enumerate(names) if name in row]
    for ahead, behind in zip(places, places[1:]):
        if row.index(names[ahead]) > row.index(names[behind]):
            return (ahead, behind)
    return None


def turned_pair(rows, names):
    for row in rows:
        pair = turned_in(row, names)
        if pair is not None:
            return pair
    return None


def in_dues(works, names):
    check_names(works, names)
    return turned_pair(due_rows(works), names) is None


def in_steep(works, names):
    check_names(works, names)
    return turned_pair(steep_rows(works), names) is None


# Each move turns one pair round and no other of that row, so ten cloths take at
# most forty-five moves.
def moves_to(rows, names, move_for):
    moves = []
    found = list(names)
    pair = turned_pair(rows, found)
    while pair is not None:
        move = move_for(found, pair)
        moves.append(move)
        found = moved(found, move)
        pair = turned_pair(rows, found)
    return moves


# The one ahead goes right behind the other: then it ends no later than that one
# did, and its due is no sooner; nothing else comes to be later.
def to_dues(works, names):
    check_names(works, names)
    return moves_to(due_rows(works), names, lambda found, pair: pair)


# Either the one ahead goes right behind the other, or the other right ahead of
# it. The two changes of the cost, each times the weight of the cloth that stays,
# come to no more than 0 together, so one of them is no more than 0.
def steep_move(works, names, pair):
    if cost_of(works, moved(names, pair)) <= cost_of(works, names):
        return pair
    return (pair[1], pair[0])


def to_steep(works, names):
    check_names(works, names)
    return moves_to(steep_rows(works), names, lambda found, pair: steep_move(works, found, pair))
