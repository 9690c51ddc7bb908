"""The sharpest sayings that follow from sayings, and whether two lists of sayings come to the same."""

from sayhall.clashes import follows
from sayhall.forks import EVERY_CASE, NO_CASE, Forks
from sayhall.sayings import checked


def sharpest(sayings, many):
    forks = Forks()
    place = forks.all_of(tuple(checked(sayings, many)))
    return sorted(sharpest_at(forks, place, {}))


def sharpest_at(forks, place, known):
    if place == NO_CASE:
        return [()]
    if place == EVERY_CASE:
        return []
    if place not in known:
        row = forks.rows[place]
        # A saying without the thing follows just if it does on both sides, that is, from what fits on either.
        whole = sharpest_at(forks, forks.either_of(row[1], row[2]), known)
        low = sharpest_at(forks, row[1], known)
        high = sharpest_at(forks, row[2], known)
        known[place] = whole + led_by(row[0], low, whole) + led_by(-row[0], high, whole)
    return known[place]


def led_by(part, sharp, whole):
    # What is sharpest on a side needs the part unless it follows on the other side too; then it is one of the whole,
    # as none of its own parts can be left out there either.
    needless = {}
    for saying in whole:
        needless[saying] = True
    return [(part,) + saying for saying in sharp if saying not in needless]


def alike(one, other, many):
    first = checked(one, many)
    second = checked(other, many)
    case = case_against(first, second, many)
    return case_against(second, first, many) if case is None else case


def case_against(sayings, others, many):
    for saying in others:
        told = follows(sayings, many, saying)
        if told[0] == "case":
            return told[1]
    return None
