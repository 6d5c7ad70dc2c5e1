"""A desk: rows of words that are told to it, and what it answers of the house that it keeps."""

from rinsework.errors import NoHouse, NoRow
from rinsework.house import house_of
from rinsework.lates import fewest
from rinsework.latest import safe
from rinsework.prices import cheapest
from rinsework.promises import room_for, soonest_due
from rinsework.stair import least_late, stair
from rinsework.tables import plan_for
from rinsework.texts import is_number, read_works, works_text
from rinsework.traytables import tray_least
from rinsework.vats import dealt_least
from rinsework.words import is_name

DONE = "ok"
VAT = "vat "


def listed(names):
    return " ".join(names) if names else "-"


def first_of(told):
    return "none" if told is None else str(told[0])


# Each answer below is of a house and of what was given behind the row's first word.
def put_answer(house, given):
    house.put(tuple(given))
    return DONE


def drop_answer(house, given):
    house.drop(given[0])
    return DONE


def work_answer(house, given):
    house.work(given[0])
    return DONE


def wait_answer(house, given):
    house.wait(given[0])
    return DONE


def back_answer(house, given):
    house.back()
    return DONE


def works_answer(house, given):
    return works_text(house.works())


def done_answer(house, given):
    return listed([name for name, begin, end in house.done()])


def time_answer(house, given):
    return str(house.works().start()[1])


def least_answer(house, given):
    told = least_late(house.works())
    return first_of(told) if told is None else " ".join([first_of(told)] + told[1])


def kept_answer(house, given):
    told = plan_for(house.works(), given[0])
    return listed(told[1]) if told[0] == "plan" else "NO"


def safe_answer(house, given):
    return listed(safe(house.works(), given[0]))


def stair_answer(house, given):
    corners = stair(house.works())[0]
    return "; ".join([f"{late} {end}" for late, end, plan in corners]) if corners else "-"


def cheap_answer(house, given):
    return first_of(cheapest(house.works()))


def late_answer(house, given):
    return first_of(fewest(house.works()))


def trays_answer(house, given):
    return first_of(tray_least(house.works()))


def vats_answer(house, given):
    return first_of(dealt_least(house.works(), given[0]))


def due_answer(house, given):
    told = soonest_due(house.works(), given[0], given[1], given[2], given[3])
    return str(told[1]) if told[0] == "due" else "never"


def room_answer(house, given):
    told = room_for(house.works(), given[0], given[1], given[2], given[3])
    return str(told[1]) if told[0] == "length" else "none"


# What stands behind the first word of each row; all but NAME are numbers.
FORMS = {
    "put": ("NAME", "HUE", "LENGTH", "DUE", "WEIGHT"), "drop": ("NAME",), "work": ("NAME",), "wait": ("TIME",),
    "back": (), "works": (), "done": (), "time": (), "least": (), "kept": ("BOUND",), "safe": ("BOUND",), "stair": (),
    "cheap": (), "late": (), "trays": (), "vats": ("MANY",), "due": ("BOUND", "NAME", "HUE", "LENGTH"),
    "room": ("BOUND", "NAME", "HUE", "DUE"),
}
ANSWERS = {
    "put": put_answer, "drop": drop_answer, "work": work_answer, "wait": wait_answer, "back": back_answer,
    "works": works_answer, "done": done_answer, "time": time_answer, "least": least_answer, "kept": kept_answer,
    "safe": safe_answer, "stair": stair_answer, "cheap": cheap_answer, "late": late_answer, "trays": trays_answer,
    "vats": vats_answer, "due": due_answer, "room": room_answer,
}


def is_word_for(kind, word):
    return is_name(word) if kind == "NAME" else is_number(word)


def is_row(words):
    if words[0] not in FORMS or len(FORMS[words[0]]) != len(words) - 1:
        return False
    return all([is_word_for(kind, word) for kind, word in zip(FORMS[words[0]], words[1:])])


def given_in(words):
    return [word if kind == "NAME" else int(word) for kind, word in zip(FORMS[words[0]], words[1:])]


class Desk:
    def __init__(self):
        self.house = None

    def say(self, row):
        if row.startswith(VAT):
            self.house = house_of(read_works(row[len(VAT):]))
            return DONE
        words = row.split(" ")
        if not is_row(words):
            raise NoRow()
        if self.house is None:
            raise NoHouse()
        answer = ANSWERS[words[0]]
        return answer(self.house, given_in(words))
