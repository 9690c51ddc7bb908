"""Sayings and cases: what is one, and when a case fits."""

from sayhall.errors import NoCase, NoSayings

MOST_THINGS = 16
MOST_SAYINGS = 24


def is_whole(value):
    # To Python True and False are numbers; to this program they are none.
    return isinstance(value, int) and not isinstance(value, bool)


def is_from_one_to(value, most):
    return is_whole(value) and value >= 1 and value <= most


def is_saying(thing, many):
    if not isinstance(thing, tuple):
        return False
    last = 0
    for part in thing:
        if not is_whole(part):
            return False
        # Starting from 0, strictly rising things shut out 0 and a thing told twice.
        if abs(part) <= last or abs(part) > many:
            return False
        last = abs(part)
    return True


def is_case(thing, many):
    if not isinstance(thing, list) or len(thing) != many:
        return False
    return all([is_whole(value) and value in (0, 1) for value in thing])


def checked(sayings, many):
    # The words of these errors show nothing that was handed in: not everything can be shown.
    if not is_from_one_to(many, MOST_THINGS):
        raise NoSayings(f"the number of things must be whole, from 1 to {MOST_THINGS}")
    if not isinstance(sayings, list):
        raise NoSayings("sayings must be a list")
    if len(sayings) > MOST_SAYINGS:
        raise NoSayings(f"there are more than {MOST_SAYINGS} sayings")
    for place, saying in enumerate(sayings):
        if not is_saying(saying, many):
            raise NoSayings(f"what stands at place {place} is no saying")
    return list(sayings)


def is_so(part, case):
    return case[abs(part) - 1] == (1 if part > 0 else 0)


def holds(saying, case):
    return any([is_so(part, case) for part in saying])


def all_true(sayings, case):
    for saying in sayings:
        if not holds(saying, case):
            return False
    return True


def fits(sayings, many, case):
    good = checked(sayings, many)
    if not is_case(case, many):
        raise NoCase("a case must be a list of 0 and 1, one for each thing")
    return all_true(good, case)


# None stands for what is no saying: another thing would be in it in two ways.
def put_together(one, other, thing):
    parts = {}
    for part in one + other:
        if -part in parts and abs(part) != thing:
            return None
        parts[part] = True
    return tuple(sorted([part for part in parts if abs(part) != thing], key=abs))
