"""What can be promised to a cloth that isn't in the works yet: the soonest due, the greatest length."""

from rinsework.plans import end_of
from rinsework.tables import plan_for


# A due that is greater and a length that is less never make a bound harder to
# keep, so between a kept number and a barred one there is one edge.
def last_kept(answer, kept, barred):
    while abs(kept - barred) > 1:
        middle = (kept + barred) // 2
        if answer(middle)[0] == "plan":
            kept = middle
        else:
            barred = middle
    return kept


def soonest_due(works, bound, name, hue, length):
    more = works.put((name, hue, length, 0, 1))
    told = plan_for(works, bound)
    if told[0] == "shut":
        return ("never", told[1])

    def answer(tried):
        return plan_for(works.put((name, hue, length, tried, 1)), bound)

    # Behind all others it takes nothing from them; done first it ends soonest.
    kept = end_of(more, told[1] + [name]) - bound
    barred = end_of(more, [name]) - bound - 1
    due = last_kept(answer, kept, barred)
    return ("due", due, answer(due)[1], answer(due - 1)[1])


def room_for(works, bound, name, hue, due):
    def answer(tried):
        return plan_for(works.put((name, hue, tried, due, 1)), bound)

    told = answer(1)
    if told[0] == "shut":
        return ("none", told[1])
    # So long a cloth breaks the bound by itself, even begun at the start's time.
    barred = bound + due - works.start()[1] + 1
    length = last_kept(answer, 1, barred)
    return ("length", length, answer(length)[1], answer(length + 1)[1])
