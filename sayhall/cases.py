"""All cases that fit sayings, and the things that are settled by them."""

from sayhall.errors import Clash
from sayhall.sayings import all_true, checked


def cases(sayings, many):
    good = checked(sayings, many)
    if () in good:
        return []
    begun = [[]]
    for thing in range(1, many + 1):
        # A saying can be asked as soon as its last thing is chosen, so what fails is dropped early.
        ripe = [saying for saying in good if abs(saying[-1]) == thing]
        begun = longer(begun, ripe)
    return begun


def longer(begun, ripe):
    # Starts that rise, each followed by 0 ahead of 1, rise again: nothing has to be sorted.
    found = []
    for start in begun:
        for choice in (0, 1):
            case = start + [choice]
            if all_true(ripe, case):
                found.append(case)
    return found


def settled(sayings, many):
    fitting = cases(sayings, many)
    if not fitting:
        raise Clash("no case fits the sayings")
    found = []
    for thing in range(1, many + 1):
        times_so = sum([case[thing - 1] for case in fitting])
        if times_so == len(fitting):
            found.append(thing)
        elif times_so == 0:
            found.append(-thing)
    return found
