"""Points 2, 3, 4 and 121: the desk's rows, their answers, and their refusals in their order."""

import random
import unittest

from rinsework.desk import Desk
from rinsework.errors import (NoCloth, NoHouse, NoName, NoRow, NoText, NothingDone, NoTime, NoVats, RinseError, TooMany,
                              Twice)
from rinsework.house import House
from rinsework.lates import fewest
from rinsework.latest import safe
from rinsework.prices import cheapest
from rinsework.promises import room_for, soonest_due
from rinsework.stair import least_late, stair
from rinsework.tables import plan_for
from rinsework.texts import works_text
from rinsework.traytables import tray_least
from rinsework.vats import dealt_least
from tests.made import GREAT, NAMES, made, small_ones

# The works of the tests of tables; a, c, b end at 6, 16, 22 with lateness 2.
EMPTY = "rinses 0 3 / 4 0 / 1 2; start -1 0"
TEXT = EMPTY + "; cloth a 0 5 10 2; cloth b 1 6 20 1; cloth c 1 7 15 3"
# A row of each form, each of them in its place with a house of TEXT.
ROWS = ["put d 1 4 30 1", "drop a", "work a", "wait 5", "back", "works", "done", "time", "least", "kept 2", "safe 2",
        "stair", "cheap", "late", "trays", "vats 2", "due 2 d 1 4", "room 2 d 1 30"]
NO_ARGUMENTS = ["back", "works", "done", "time", "least", "stair", "cheap", "late", "trays"]
NO_NUMBERS = ["", "-", "-0", "+5", "007", "00", "1.5", "a", "abc", "A", "\t", "5\n", "1" * 31, "-" + "1" * 31, "1_0", "5-"]
NO_NAME_WORDS = ["", "A", "aB", "a1", "5", "-", "abcdefghi", "a\n", "\ta", "a-b", "~"]


def desk_of(text):
    desk = Desk()
    desk.say("vat " + text)
    return desk


class AnswersTest(unittest.TestCase):
    def said(self, desk, rows):
        for row, answer in rows:
            self.assertEqual(desk.say(row), answer, row)

    def test_told_by_hand(self):
        self.said(Desk(), [("vat " + TEXT, "ok"), ("works", TEXT), ("done", "-"), ("time", "0"), ("least", "2 a c b"),
                           ("kept 2", "a c b"), ("kept 1", "NO"), ("kept -5", "NO"), ("safe 2", "a"), ("safe 1", "-"),
                           ("stair", "2 22"), ("cheap", "82"), ("late", "1"), ("trays", "2"), ("vats 1", "2"),
                           ("vats 2", "-4"), ("vats 3", "-4"), ("due 2 d 1 4", "24"), ("due 1 d 1 4", "never"),
                           ("room 2 d 1 30", "10"), ("room 2 d 1 20", "none"), ("works", TEXT)])

    def test_deeds_by_hand(self):
        left = "; cloth b 1 6 20 1; cloth c 1 7 15 3"
        rinses = "rinses 0 3 / 4 0 / 1 2"
        self.said(desk_of(TEXT), [("work a", "ok"), ("done", "a"), ("time", "6"), ("works", f"{rinses}; start 0 6{left}"),
                                  ("wait 6", "ok"), ("wait 10", "ok"), ("time", "10"), ("work c", "ok"), ("done", "a c"),
                                  ("time", "20"), ("put d 0 1 -7 9", "ok"), ("drop b", "ok"),
                                  ("works", f"{rinses}; start 1 20; cloth d 0 1 -7 9"), ("back", "ok"), ("back", "ok"),
                                  ("back", "ok"), ("done", "a"), ("time", "10"), ("back", "ok"), ("back", "ok"),
                                  ("works", f"{rinses}; start 0 6{left}"), ("back", "ok"), ("works", TEXT), ("done", "-")])

    def test_without_cloths(self):
        for text in [EMPTY, "rinses 1 / 0; start 0 9"]:
            self.said(desk_of(text), [("works", text), ("done", "-"), ("least", "none"), ("kept 0", "-"), ("kept -5", "-"),
                                      ("safe 0", "-"), ("stair", "-"), ("cheap", "0"), ("late", "0"), ("trays", "none"),
                                      ("vats 1", "none"), ("vats 2", "none"), ("vats 3", "none")])
        self.said(desk_of(EMPTY), [("due 5 a 1 4", "1"), ("room 0 a 1 9", "7"), ("room 0 a 1 2", "none"), ("time", "0")])

    def test_several_corners(self):
        desk = desk_of("rinses 0 5 / 5 0 / 0 0; start -1 0; cloth a 0 2 2 1; cloth b 1 2 9 1; cloth c 0 9 99 1")
        self.said(desk, [("stair", "0 23; 7 18"), ("least", "0 a b c"), ("late", "0")])

    def test_trays(self):
        self.said(desk_of("rinses 50 / 0; start 0 7; cloth a 0 5 10 1"), [("trays", "52"), ("least", "2 a")])

    def test_a_vat_in_the_place_of_an_earlier_one(self):
        desk = desk_of(TEXT)
        self.said(desk, [("work a", "ok"), ("vat " + EMPTY, "ok"), ("works", EMPTY), ("done", "-"), ("time", "0")])
        with self.assertRaises(NothingDone):
            desk.say("back")
        self.said(desk, [("put e 0 1 1 1", "ok"), ("back", "ok"), ("works", EMPTY), ("vat " + TEXT, "ok"), ("works", TEXT)])
        with self.assertRaises(NothingDone):
            desk.say("back")
        self.said(desk, [("works", TEXT)])

    def test_thirty_figures(self):
        great = "9" * 30
        self.said(desk_of("rinses 0 / 0; start -1 0"), [
            (f"put a 0 {great} -{great} {great}", "ok"), ("least", f"{2 * GREAT} a"), ("cheap", str(GREAT * GREAT)),
            (f"wait {great}", "ok"), ("time", great), (f"kept {great}", "NO"), (f"kept -{great}", "NO"),
            (f"due {great} b 0 {great}", "never"), ("work a", "ok"), ("time", str(2 * GREAT)), ("done", "a"),
            (f"room {great} b 0 {great}", "none")])

    def test_answers_are_texts(self):
        for row in ROWS:
            desk = desk_of(TEXT)
            desk.say("wait 1")
            self.assertIs(type(desk.say(row)), str)

    def test_two_desks_have_nothing_to_do_with_each_other(self):
        one, other = desk_of(TEXT), Desk()
        with self.assertRaises(NoHouse):
            other.say("works")
        other.say("vat " + EMPTY)
        self.assertEqual((one.say("works"), other.say("works")), (TEXT, EMPTY))


class AsTheFunctionsTellTest(unittest.TestCase):
    def listed(self, names):
        return " ".join(names) or "-"

    def test_works_by_chance(self):
        for given in [given for given in small_ones(2) if max([cloth[2] for cloth in given.cloths], default=0) < 20]:
            works = given.works()
            desk = desk_of(works_text(works))
            self.assertEqual(desk.say("works"), works_text(works))
            least = least_late(works)
            self.assertEqual(desk.say("least"), " ".join([str(least[0])] + least[1]) if least else "none")
            self.assertEqual(desk.say("stair"), "; ".join(f"{late} {end}" for late, end, plan in stair(works)[0]) or "-")
            self.assertEqual(desk.say("cheap"), str(cheapest(works)[0]))
            self.assertEqual(desk.say("late"), str(fewest(works)[0]))
            self.assertEqual(desk.say("trays"), str(tray_least(works)[0]) if given.names else "none")
            self.assertEqual(desk.say("time"), str(given.time))
            for many in (1, 2, 3):
                late = dealt_least(works, many)
                self.assertEqual(desk.say(f"vats {many}"), str(late[0]) if late else "none")
            for bound in given.bounds()[:-1]:
                word, plan = plan_for(works, bound)
                self.assertEqual(desk.say(f"kept {bound}"), self.listed(plan) if word == "plan" else "NO")
                self.assertEqual(desk.say(f"safe {bound}"), self.listed(safe(works, bound)))
                told = soonest_due(works, bound, "q", 0, 3)
                self.assertEqual(desk.say(f"due {bound} q 0 3"), str(told[1]) if told[0] == "due" else "never")
                told = room_for(works, bound, "q", 0, 9)
                self.assertEqual(desk.say(f"room {bound} q 0 9"), str(told[1]) if told[0] == "length" else "none")
            self.assertEqual(desk.say("works"), works_text(works))

    def test_deeds_by_chance(self):
        for seed in range(10):
            chance = random.Random(seed)
            desk, house = desk_of(EMPTY), House([[0, 3], [4, 0], [1, 2]])
            for turn in range(60):
                name, hue, number = chance.choice(NAMES[:5]), chance.randrange(3), chance.randint(-1, 9)
                row, deed = chance.choice([
                    (f"put {name} {hue} {number} {turn} 1", lambda: house.put((name, hue, number, turn, 1))),
                    (f"put {name} 0 3 {turn} 1", lambda: house.put((name, 0, 3, turn, 1))),
                    (f"drop {name}", lambda: house.drop(name)), (f"work {name}", lambda: house.work(name)),
                    (f"wait {number * turn}", lambda: house.wait(number * turn)), ("back", house.back)])
                refusals = []
                for ask in (lambda: self.assertEqual(desk.say(row), "ok"), deed):
                    try:
                        ask()
                        refusals.append(None)
                    except RinseError as error:
                        refusals.append(type(error))
                self.assertEqual(refusals[0], refusals[1], row)
                self.assertEqual(desk.say("works"), works_text(house.works()))
                self.assertEqual(desk.say("done"), self.listed([done[0] for done in house.done()]))
                self.assertEqual(desk.say("time"), str(house.works().start()[1]))


class RefusalsTest(unittest.TestCase):
    def refused(self, refusal, desk, row):
        with self.assertRaises(RinseError) as caught:
            desk.say(row)
        self.assertIs(type(caught.exception), refusal, row)
        return caught.exception

    def no_row(self, row):
        """Refused with and without a house, and nothing is changed by it."""
        self.refused(NoRow, Desk(), row)
        desk = desk_of(TEXT)
        self.refused(NoRow, desk, row)
        self.assertEqual((desk.say("works"), desk.say("done")), (TEXT, "-"))
        self.refused(NothingDone, desk, "back")

    def test_other_first_words(self):
        for row in ["", " ", "\n", "\t", "x", "vats2", "vatx", "Works", "WORKS", "cloth a 0 1 1 1", "ok", "-", "NO", "none",
                    "rinses 0 / 0", "help", "say works", "put_answer", "5", " works", "\tworks", "works\n", "least\t",
                    "stairs", "lates", "tray", "due_row 0", "start", "names", "NAME", "worst"]:
            self.no_row(row)

    def test_vat_without_a_blank(self):
        for row in ["vat", "vat\t" + TEXT, "vat\n" + TEXT, "Vat " + TEXT, " vat " + TEXT, "vats", "vat;"]:
            self.no_row(row)

    def test_too_many_and_too_few_words(self):
        for row in ROWS:
            words = row.split(" ")
            for more in ("5", "a", "", "-", "x y"):
                self.no_row(row + " " + more)
            if len(words) > 1:
                self.no_row(words[0])
                self.no_row(" ".join(words[:-1]))
                self.no_row(" ".join(words[:1] + words[2:]))
        for word in NO_ARGUMENTS:
            self.no_row(word + " ")
            self.no_row(word + " " + word)

    def test_blanks(self):
        for row in ROWS:
            self.no_row(" " + row)
            self.no_row(row + " ")
            for place, sign in enumerate(row):
                if sign == " ":
                    for blanks in ("  ", "\t", "\n", ""):
                        self.no_row(row[:place] + blanks + row[place + 1:])

    def test_words_that_are_no_numbers(self):
        for row in ROWS:
            words = row.split(" ")
            for place in range(1, len(words)):
                for word in NO_NUMBERS if words[place].isdigit() else NO_NAME_WORDS:
                    self.no_row(" ".join(words[:place] + [word] + words[place + 1:]))

    def test_no_house(self):
        for row in ROWS + ["put d 9 0 5 0", "drop nocloth", "work nocloth", "wait -1", "vats 0", "vats 99", "due 0 a 9 0",
                           "room 0 a -1 5", "kept -1"]:
            desk = Desk()
            self.refused(NoHouse, desk, row)
            for text in ["", "rinses", EMPTY + "; "]:
                self.refused(NoText, desk, "vat " + text)
                self.refused(NoHouse, desk, row)

    def test_texts_that_are_none(self):
        for text, part in [("", 0), (" ", 0), (" " + TEXT, 0), (TEXT + "; ", 5), (TEXT + " ", 4), ("rinses 0 / 0", 1),
                           ("rinses 0 / 0; start 1 0", 1), (EMPTY + "; cloth a 2 1 1 1", 2), (TEXT + "; cloth a 0 1 1 1", 5),
                           ("vat " + TEXT, 0), ("works", 0)]:
            for desk in [Desk(), desk_of(TEXT)]:
                self.assertEqual(self.refused(NoText, desk, "vat " + text).part, part)

    def test_a_refused_text_leaves_the_house(self):
        desk = desk_of(TEXT)
        desk.say("work a")
        ahead = desk.say("works")
        for text in ["", "rinses 0 / 0", EMPTY + "; cloth a 2 1 1 1"]:
            self.refused(NoText, desk, "vat " + text)
            self.assertEqual((desk.say("works"), desk.say("done"), desk.say("time")), (ahead, "a", "6"))
        desk.say("back")
        self.assertEqual(desk.say("works"), TEXT)

    def test_as_the_deeds_refuse(self):
        for row, refusal in [("put d 2 4 30 1", NoCloth), ("put d -1 4 30 1", NoCloth), ("put d 0 0 30 1", NoCloth),
                             ("put d 0 -4 30 1", NoCloth), ("put d 0 4 30 0", NoCloth), ("put a 0 4 30 1", Twice),
                             ("put a 0 0 30 1", NoCloth), ("drop d", NoName), ("work d", NoName), ("wait -1", NoTime),
                             ("back", NothingDone), ("vats 0", NoVats), ("vats 4", NoVats), ("vats -1", NoVats),
                             ("due 0 d 2 4", NoCloth), ("due 0 d 0 0", NoCloth), ("due 0 a 0 4", Twice),
                             ("room 0 d 2 4", NoCloth), ("room 0 a 0 4", Twice), ("due 0 a 2 4", NoCloth),
                             ("due -100 a 0 4", Twice), ("due 0 d -1 4", NoCloth)]:
            desk = desk_of(TEXT)
            self.refused(refusal, desk, row)
            self.assertEqual((desk.say("works"), desk.say("done")), (TEXT, "-"))
            self.refused(NothingDone, desk, "back")
        desk = desk_of(TEXT)
        desk.say("work a")
        self.refused(NoTime, desk, "wait 5")
        self.refused(NoName, desk, "work a")
        self.assertEqual(self.refused(Twice, desk, "put b 0 4 30 1").name, "b")

    def test_too_many(self):
        desk = desk_of(works_text(made(1, 7, 2).works()))
        self.refused(NoVats, desk, "vats 4")
        for many in (1, 2, 3):
            self.refused(TooMany, desk, f"vats {many}")
        desk = desk_of(works_text(made(1, 10, 2).works()))
        for row in ["put q 0 1 1 1", "put q 9 0 1 1", "due 0 q 0 1", "room 0 q 0 1"]:
            self.refused(TooMany, desk, row)


if __name__ == "__main__":
    unittest.main()
