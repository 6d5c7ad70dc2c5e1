"""Works: rinses, cloths and a start. They are never changed; others are made from them."""

from rinsework.cloths import by_dues, by_steepness, hue_of, is_cloth, is_from, name_of, names_of
from rinsework.errors import NoCloth, NoName, NoStart, TooMany, Twice
from rinsework.plans import check_names, end_of
from rinsework.rinses import least_rinses

MOST_CLOTHS = 10


def check_start(last, time, hues):
    if last is not None and not (is_from(last, -1) and last < hues):
        raise NoStart()
    if not is_from(time, 0):
        raise NoStart()


def check_cloths(cloths, hues):
    if len(cloths) > MOST_CLOTHS:
        raise TooMany()
    seen = {}
    for cloth in cloths:
        if not is_cloth(cloth, hues):
            raise NoCloth()
        if name_of(cloth) in seen:
            raise Twice(name_of(cloth))
        seen[name_of(cloth)] = True


class Works:
    def __init__(self, rinses, cloths, last=None, time=0):
        self.least = least_rinses(rinses)
        check_start(last, time, self.hues())
        check_cloths(cloths, self.hues())
        self.given = [list(row) for row in rinses]
        self.held = dict([(name_of(cloth), cloth) for cloth in cloths])
        self.last = -1 if last is None else last
        self.time = time

    def hues(self):
        return len(self.least) - 1

    def rinses(self):
        return [list(row) for row in self.given]

    def rinse(self, first, then):
        return 0 if first == then else self.tray_rinse(first, then)

    def tray_rinse(self, first, then):
        return self.least[first][then]

    def start(self):
        return (self.last, self.time)

    def names(self):
        return sorted(self.held)

    def cloth(self, name):
        if not isinstance(name, str) or name not in self.held:
            raise NoName()
        return self.held[name]

    def cloths_in(self, hue):
        return [cloth for cloth in self.held.values() if hue_of(cloth) == hue]

    def due_row(self, hue):
        return names_of(by_dues(self.cloths_in(hue)))

    def steep_row(self, hue):
        return names_of(by_steepness(self.cloths_in(hue)))

    def put(self, cloth):
        return Works(self.given, list(self.held.values()) + [cloth], self.last, self.time)

    def without(self, name):
        self.cloth(name)
        return Works(self.given, self.cloths_but([name]), self.last, self.time)

    def only(self, names):
        check_names(self, names)
        return Works(self.given, [self.held[name] for name in names], self.last, self.time)

    def begun(self, names):
        time = end_of(self, names)
        last = hue_of(self.held[names[-1]]) if names else self.last
        return Works(self.given, self.cloths_but(names), last, time)

    def cloths_but(self, names):
        return [cloth for cloth in self.held.values() if name_of(cloth) not in names]
