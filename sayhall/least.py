"""The least clash, what lies between two lists of sayings that clash, and sayings with a thing forgotten."""

from sayhall.clashes import fitting_case
from sayhall.errors import Fits, NoThing
from sayhall.sayings import checked, is_from_one_to, put_together
from sayhall.sharpest import sharpest


def least_clash(sayings, many):
    good = checked(sayings, many)
    if fitting_case(good, many) is not None:
        raise Fits("some case fits the sayings, so nothing clashes")
    left = list(range(len(good)))
    for place in range(len(good)):
        fewer = [other for other in left if other != place]
        if fitting_case([good[other] for other in fewer], many) is None:
            left = fewer
    return left


def between(one, other, many):
    first = checked(one, many)
    second = checked(other, many)
    case = fitting_case(first + second, many)
    if case is not None:
        return ("case", case)
    common = things_in_both(first, second)
    return ("between", [saying for saying in sharpest(first, many) if has_only(saying, common)])


def things_in_both(one, other):
    things = things_of(other)
    return [thing for thing in things_of(one) if thing in things]


def things_of(sayings):
    found = []
    for saying in sayings:
        found.extend([abs(part) for part in saying])
    return found


def has_only(saying, things):
    return all([abs(part) in things for part in saying])


def forgotten(sayings, many, thing):
    good = checked(sayings, many)
    if not is_from_one_to(thing, many):
        raise NoThing(f"a thing is a whole number from 1 to {many}")
    found = [saying for saying in good if thing not in saying and -thing not in saying]
    for one in [saying for saying in good if thing in saying]:
        for other in [saying for saying in good if -thing in saying]:
            both = put_together(one, other, thing)
            if both is not None:
                found.append(both)
    return sorted(set(found))
