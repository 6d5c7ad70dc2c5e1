"""Several vats: dealings of the cloths to them, overfull sets that bar a bound, and the least lateness."""

from rinsework.errors import NoPlan, NoVats, TooMany
from rinsework.plans import are_names, is_plan, lateness
from rinsework.stair import least_late
from rinsework.tables import bars, plan_for
from rinsework.words import is_whole

MOST_VATS = 3
MOST_DEALT = 6


def check_vats(works, many):
    if not is_whole(many) or not 1 <= many <= MOST_VATS:
        raise NoVats()
    if len(works.names()) > MOST_DEALT:
        raise TooMany()


def check_dealing(works, dealing):
    check_vats(works, len(dealing))
    if not all([isinstance(names, list) for names in dealing]) or not is_plan(works, sum(dealing, start=[])):
        raise NoPlan()


def vat_lateness(works, dealing):
    check_dealing(works, dealing)
    lates = [lateness(works, names) for names in dealing]
    return max([late for late in lates if late is not None], default=None)


# Below, what a vat has is a tuple of sorted names, so that it can be looked up.
def with_name(dealing, vat, name):
    return [held + (name,) if place == vat else held for place, held in enumerate(dealing)]


def all_dealings(names, many):
    dealings = [[()] * many]
    for name in names:
        longer = []
        for dealing in dealings:
            longer.extend([with_name(dealing, vat, name) for vat in range(many)])
        dealings = longer
    return dealings


# Of two vats the first one has each set of names once.
def all_sets(works):
    return [dealing[0] for dealing in all_dealings(works.names(), 2)]


def answers_for(works, bound):
    return dict([(names, plan_for(works.only(list(names)), bound)) for names in all_sets(works)])


def is_overfull(answers, names):
    return answers[names][0] == "shut"


def lesser_sets(names):
    return [names[:place] + names[place + 1:] for place in range(len(names))]


# Whatever has an overfull set in it is overfull, so those without a lesser one in them speak for all.
def is_least_overfull(answers, names):
    return is_overfull(answers, names) and not any([is_overfull(answers, lesser) for lesser in lesser_sets(names)])


def overfull_sets(answers):
    return [(list(names), answers[names][1]) for names in answers if is_least_overfull(answers, names)]


# Two vats may have the same set, the empty one: each is told a list of its own.
def dealt(works, many, bound):
    check_vats(works, many)
    answers = answers_for(works, bound)
    for dealing in all_dealings(works.names(), many):
        if not any([is_overfull(answers, names) for names in dealing]):
            return ("dealing", [list(answers[names][1]) for names in dealing])
    return ("overfull", overfull_sets(answers))


def is_overfull_set(works, bound, names, table):
    return are_names(works, names) and names == sorted(names) and bars(works.only(names), bound, table)


def has_all(held, names):
    return all([name in held for name in names])


def has_some_set(held, sets):
    return any([has_all(held, names) for names, table in sets])


def has_overfull_vat(dealing, sets):
    return any([has_some_set(held, sets) for held in dealing])


def vats_bar(works, many, bound, sets):
    check_vats(works, many)
    if not all([is_overfull_set(works, bound, names, table) for names, table in sets]):
        return False
    return all([has_overfull_vat(dealing, sets) for dealing in all_dealings(works.names(), many)])


def greatest_late(lates, dealing):
    return max([lates[names] for names in dealing if names])


def dealt_least(works, many):
    check_vats(works, many)
    if not works.names():
        return None
    lates = dict([(names, least_late(works.only(list(names)))[0]) for names in all_sets(works) if names])
    late = min([greatest_late(lates, dealing) for dealing in all_dealings(works.names(), many)])
    return (late, dealt(works, many, late)[1], dealt(works, many, late - 1)[1])
