"""Texts of works: how they are written, and how they are read again."""

from rinsework.errors import NoCloth, NoRinses, NoStart, NoText, TooMany, Twice
from rinsework.rinses import check_rinses
from rinsework.works import Works

MOST_FIGURES = 30


def words_text(things):
    return " ".join([str(thing) for thing in things])


def works_text(works):
    rinses = " / ".join([words_text(row) for row in works.rinses()])
    start = words_text(works.start())
    cloths = [words_text(works.cloth(name)) for name in works.names()]
    return "; ".join([f"rinses {rinses}", f"start {start}"] + [f"cloth {cloth}" for cloth in cloths])


def is_number(word):
    figures = word[1:] if word.startswith("-") else word
    if not 1 <= len(figures) <= MOST_FIGURES or not all(["0" <= sign <= "9" for sign in figures]):
        return False
    return word == "0" or not figures.startswith("0")


def words_behind(parts, number, first):
    words = parts[number].split(" ") if number < len(parts) else [""]
    if words[0] != first:
        raise NoText(number)
    return words[1:]


def numbers_of(words, number):
    if not all([is_number(word) for word in words]):
        raise NoText(number)
    return [int(word) for word in words]


def read_rinses(parts):
    rows = " ".join(words_behind(parts, 0, "rinses")).split(" / ")
    rinses = [numbers_of(row.split(" "), 0) for row in rows]
    try:
        check_rinses(rinses)
    except NoRinses:
        raise NoText(0)
    return rinses


def read_vat(parts):
    rinses = read_rinses(parts)
    start = numbers_of(words_behind(parts, 1, "start"), 1)
    if len(start) != 2:
        raise NoText(1)
    try:
        return Works(rinses, [], start[0], start[1])
    except NoStart:
        raise NoText(1)


# Too few and too many words make no cloth either.
def with_cloth(works, parts, number):
    words = words_behind(parts, number, "cloth")
    cloth = words[:1] + numbers_of(words[1:], number)
    try:
        return works.put(tuple(cloth))
    except (TooMany, NoCloth, Twice):
        raise NoText(number)


# Part by part, so that the first one that is wrong is the one that is told.
def read_works(text):
    parts = text.split("; ")
    works = read_vat(parts)
    for number in range(2, len(parts)):
        works = with_cloth(works, parts, number)
    return works
