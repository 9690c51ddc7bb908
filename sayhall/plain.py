"""Plain sayings, each with at most one thing that is so: the least case that fits, or how they clash."""

from sayhall.errors import NotPlain
from sayhall.sayings import checked, holds


def least_case(sayings, many):
    good = checked(sayings, many)
    for place, saying in enumerate(good):
        if len(told_so(saying)) > 1:
            raise NotPlain(f"the saying at place {place} has more than one thing that is so")
    return grown(good, many)


def told_so(saying):
    return [part for part in saying if part > 0]


# Nothing is so at first, and a thing becomes so only where a saying leaves no other way: it is so in all that fit.
def grown(sayings, many):
    case = [0] * many
    order = []
    place = first_untrue(sayings, case)
    while place is not None:
        told = told_so(sayings[place])
        # All that the saying tells not to be so is so by now, or it would be true: those things stand in the order.
        if not told:
            return ("clash", order, place)
        case[told[0] - 1] = 1
        order.append((told[0], place))
        place = first_untrue(sayings, case)
    return ("case", case, order)


def first_untrue(sayings, case):
    for place, saying in enumerate(sayings):
        if not holds(saying, case):
            return place
    return None
