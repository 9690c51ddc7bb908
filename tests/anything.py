"""Things of any kind, for what must be asked or refused whatever is handed in."""


class Unwilling:
    """Can't be compared, shown, counted or walked."""

    __hash__ = None

    def __eq__(self, other):
        raise RuntimeError("not to be compared")

    def __repr__(self):
        raise RuntimeError("not to be shown")

    def __len__(self):
        raise RuntimeError("not to be counted")

    def __iter__(self):
        raise RuntimeError("not to be walked")


# Too long for Python to show as a text.
HUGE = 10 ** 5000


def holding_itself():
    knot = []
    knot.append(knot)
    return knot


def oddities():
    """Named things of which none is a saying, a case, sayings or a number of things."""
    return {
        "None": None,
        "True": True,
        "False": False,
        "huge": HUGE,
        "huge below nought": -HUGE,
        "float": 1.0,
        "not a number": float("nan"),
        "complex": 1j,
        "text": "1",
        "bytes": b"\x01",
        "dict": {1: 1},
        "set": {1},
        "range": range(1, 3),
        "walked": iter([1]),
        "class": int,
        "def": len,
        "object": object(),
        "unwilling": Unwilling(),
        "list with unwilling": [Unwilling()],
        "tuple with unwilling": (Unwilling(),),
        "holding itself": holding_itself(),
    }
