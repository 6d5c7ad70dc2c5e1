"""A cloth, a tuple (name, hue, length, due, weight): what is one, and what it tells of itself."""

from rinsework.words import is_name, is_whole

PARTS = 5


def name_of(cloth):
    return cloth[0]


def hue_of(cloth):
    return cloth[1]


def length_of(cloth):
    return cloth[2]


def due_of(cloth):
    return cloth[3]


def weight_of(cloth):
    return cloth[4]


def is_from(thing, least):
    return is_whole(thing) and thing >= least


def is_cloth(thing, hues):
    if not isinstance(thing, tuple) or len(thing) != PARTS:
        return False
    if not is_name(name_of(thing)) or not is_from(hue_of(thing), 0) or hue_of(thing) >= hues:
        return False
    return is_from(length_of(thing), 1) and is_whole(due_of(thing)) and is_from(weight_of(thing), 1)


def late_by(cloth, end):
    return end - due_of(cloth)


def is_kept(cloth, end, bound):
    return bound is None or late_by(cloth, end) <= bound


def names_of(cloths):
    return [name_of(cloth) for cloth in cloths]


def by_dues(cloths):
    return sorted(cloths, key=lambda cloth: (due_of(cloth), name_of(cloth)))


# All weights multiplied are a weight that each fraction can be written over, so
# that whole numbers are held against each other and nothing is rounded.
def by_steepness(cloths):
    common = 1
    for cloth in cloths:
        common *= weight_of(cloth)
    return sorted(cloths, key=lambda cloth: (length_of(cloth) * (common // weight_of(cloth)), name_of(cloth)))
