"""Choosing in turns: who gets their way whatever the other one does, and by which plan."""

from sayhall.errors import NoKinds
from sayhall.forks import left_over
from sayhall.sayings import checked

SOME = "some"
ALL = "all"


def played(sayings, many, kinds):
    good = checked(sayings, many)
    if not are_kinds(kinds, many):
        raise NoKinds(f"kinds must be a list of '{SOME}' and '{ALL}', one for each thing")
    return told_from(1, tuple(good), kinds, {})


def are_kinds(thing, many):
    if not isinstance(thing, list) or len(thing) != many:
        return False
    return all([isinstance(kind, str) and kind in (SOME, ALL) for kind in thing])


# The sayings are those that are not yet true, without the parts that are chosen the other way.
def told_from(thing, sayings, kinds, known):
    if thing > len(kinds):
        return ("no" if sayings else "yes", None)
    # Many ways lead to the same sayings; what was told of them holds again.
    if (thing, sayings) not in known:
        known[(thing, sayings)] = told_by_choices(thing, sayings, kinds, known)
    return known[(thing, sayings)]


def told_by_choices(thing, sayings, kinds, known):
    chooser = "yes" if kinds[thing - 1] == SOME else "no"
    plans = []
    for choice in (0, 1):
        left = after(sayings, thing if choice == 1 else -thing)
        told = told_from(thing + 1, left, kinds, known)
        if told[0] == chooser:
            return (chooser, (choice, told[1]))
        plans.append(told[1])
    return ("no" if chooser == "yes" else "yes", (plans[0], plans[1]))


def after(sayings, part):
    # Once one saying can't be true any more, the others don't matter.
    return ((),) if () in sayings else left_over(sayings, part)
