"""A house: cloths that wait at a vat, what was done, and deeds that can be taken back."""

from rinsework.cloths import is_from, late_by
from rinsework.errors import NothingDone, NoTime
from rinsework.plans import done_rows
from rinsework.stair import greater_late
from rinsework.works import Works


# Now is a tuple (works, done, worst); the past has one for each deed, as it was ahead of it.
class House:
    def __init__(self, rinses, last=None, time=0):
        self.now = (Works(rinses, [], last, time), [], None)
        self.past = []

    def turn_to(self, works, done, worst):
        self.past.append(self.now)
        self.now = (works, done, worst)

    def put(self, cloth):
        self.turn_to(self.works().put(cloth), self.done(), self.worst())

    def drop(self, name):
        self.turn_to(self.works().without(name), self.done(), self.worst())

    def work(self, name):
        works = self.works()
        cloth = works.cloth(name)
        row = done_rows(works, [name])[0]
        worst = greater_late(self.worst(), late_by(cloth, row[2]))
        self.turn_to(works.begun([name]), self.done() + [row], worst)

    def wait(self, time):
        works = self.works()
        start = works.start()
        if not is_from(time, start[1]):
            raise NoTime()
        cloths = [works.cloth(name) for name in works.names()]
        self.turn_to(Works(works.rinses(), cloths, start[0], time), self.done(), self.worst())

    def back(self):
        if not self.past:
            raise NothingDone()
        self.now = self.past.pop()

    def works(self):
        return self.now[0]

    def done(self):
        return list(self.now[1])

    def worst(self):
        return self.now[2]


# A house in which the cloths of the works wait, and nothing can be taken back yet.
def house_of(works):
    house = House(works.rinses())
    house.now = (works, [], None)
    return house
