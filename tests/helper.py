"""What the tests share: things of any kind, samples of sayings, and answers told straight from the document's words."""

import itertools
import random


class Unwilling:
    """Can't be compared, shown, counted or walked."""

    __hash__ = None

    def __eq__(self, other):
        raise RuntimeError("not to be compared")

    def __repr__(self):
        raise RuntimeError("not to be shown")

    def __len__(self):
        raise RuntimeError("not to be counted")

    def __iter__(self):
        raise RuntimeError("not to be walked")


# Too long for Python to show as a text.
HUGE = 10 ** 5000


def holding_itself():
    knot = []
    knot.append(knot)
    return knot


def oddities():
    """Named things of which none is a saying, a case, sayings or a number of things."""
    return {
        "None": None,
        "True": True,
        "False": False,
        "huge": HUGE,
        "huge below nought": -HUGE,
        "float": 1.0,
        "not a number": float("nan"),
        "complex": 1j,
        "text": "1",
        "bytes": b"\x01",
        "dict": {1: 1},
        "set": {1},
        "range": range(1, 3),
        "walked": iter([1]),
        "class": int,
        "def": len,
        "object": object(),
        "unwilling": Unwilling(),
        "list with unwilling": [Unwilling()],
        "tuple with unwilling": (Unwilling(),),
        "holding itself": holding_itself(),
    }


def all_cases(many):
    return [list(case) for case in itertools.product((0, 1), repeat=many)]


def true_by_hand(saying, case):
    return any((case[abs(part) - 1] == 1) == (part > 0) for part in saying)


def fitting_by_hand(sayings, many):
    """All cases that fit, rising."""
    return [case for case in all_cases(many) if all(true_by_hand(saying, case) for saying in sayings)]


def all_sayings_of(many):
    """Every saying of so many things."""
    found = []
    for ways in itertools.product((0, 1, -1), repeat=many):
        found.append(tuple(way * thing for thing, way in enumerate(ways, 1) if way))
    return found


def samples():
    """Every pair of sayings of two things, every triple of three things, and some larger ones."""
    for pair in itertools.product(all_sayings_of(2), repeat=2):
        yield list(pair), 2
    for triple in itertools.combinations(all_sayings_of(3), 3):
        yield list(triple), 3
    yield [(1, 2, -5), (-1, 3), (-2, 4, 5), (-3, -4), (2,)], 5
    yield [(thing, thing + 1) for thing in range(1, 10)], 10
    yield [(-thing, thing + 1) for thing in range(1, 16)], 16
    yield [(thing if thing % 3 else -thing,) for thing in range(1, 17)], 16
    yield [(-1, 16), (1, -16), (8,), (2, 3, 4, 5, 6, 7)] * 6, 16


def refused():
    """What must be refused with NoSayings."""
    for sayings in [
        None, (), ((1,),), "", {}, [[1]], [(2, 1)], [(1, 1)], [(1, -1)], [(0,)], [(4,)], [(True,)], [("1",)],
        [(1,), None], [(1,)] * 25, [()] * 25, [(1,), Unwilling()], Unwilling(),
    ]:
        yield sayings, 3
    for many in [0, -1, 17, HUGE, True, None, "3", 3.0, [3]]:
        yield [], many
        yield [()], many
    for thing in oddities().values():
        yield thing, 3
        yield [thing], 3
        yield [], thing


def drawn_saying(draw, many, least, most):
    things = sorted(draw.sample(range(1, many + 1), draw.randint(least, min(most, many))))
    return tuple(draw.choice((thing, -thing)) for thing in things)


def drawn_lists(seed, times, many, longest, least=1, most=3):
    """So many lists of at most so many sayings of few things: the same ones each time."""
    draw = random.Random(seed)
    for _ in range(times):
        yield [drawn_saying(draw, many, least, most) for _ in range(draw.randint(0, longest))]


def pigeons():
    """Four birds in three holes, no two in one: 22 sayings of 12 things that clash, but not without any one."""
    def place(bird, hole):
        return 3 * bird + hole + 1

    sayings = [tuple(place(bird, hole) for hole in range(3)) for bird in range(4)]
    for hole in range(3):
        for one, other in itertools.combinations(range(4), 2):
            sayings.append((-place(one, hole), -place(other, hole)))
    return sayings


def crossing(many):
    """Sayings of twice so many things, from which far more than 24 sharpest ones follow."""
    return [tuple(range(1, many + 1))] + [(-thing, thing + many) for thing in range(1, many + 1)]
