"""A case that fits sayings, or steps by which they clash; and whether a saying follows from sayings.

While a case is searched for, what is chosen so far is a list like a case, with None for a thing that is still open. A
proof is a tuple (saying, reasons) like a step, but with two proofs where a step has the places of two steps: so what
the search gives up falls away by itself, and only what is needed is laid out as steps.
"""

from sayhall.errors import NoSaying
from sayhall.sayings import checked, holds, is_saying, put_together


def case_or_clash(sayings, many):
    told = searched(checked(sayings, many), [None] * many)
    return told if told[0] == "case" else ("clash", laid_out(told[1]))


def follows(sayings, many, saying):
    good = checked(sayings, many)
    if not is_saying(saying, many):
        raise NoSaying("what should follow is no saying of so many things")
    # The saying follows just if nothing fits once each of its parts is chosen the other way.
    chosen = [None] * many
    for part in saying:
        chosen[abs(part) - 1] = 0 if part > 0 else 1
    told = searched(good, chosen)
    return told if told[0] == "case" else ("steps", laid_out(told[1]))


# Not by case_or_clash, which refuses more sayings than may be handed in: two lists in one may be more.
def fitting_case(sayings, many):
    told = searched(sayings, [None] * many)
    return told[1] if told[0] == "case" else None


# The saying of a proof has only parts that are chosen the other way: so () if nothing was chosen at first.
def searched(sayings, chosen):
    place = narrowest(sayings, chosen)
    if place is None:
        return ("case", [0 if choice is None else choice for choice in chosen])
    left = open_parts(sayings[place], chosen)
    if not left:
        return ("clash", (sayings[place], (place,)))
    return searched_both_ways(sayings, chosen, abs(left[0]))


def narrowest(sayings, chosen):
    # A saying with one open part leaves no choice, and one with none ends the search: so they come first.
    waiting = [place for place, saying in enumerate(sayings) if not holds(saying, chosen)]
    return min(waiting, key=lambda place: len(open_parts(sayings[place], chosen)), default=None)


def open_parts(saying, chosen):
    return [part for part in saying if chosen[abs(part) - 1] is None]


def searched_both_ways(sayings, chosen, thing):
    proofs = []
    for choice in (0, 1):
        told = searched(sayings, chosen[:thing - 1] + [choice] + chosen[thing:])
        if told[0] == "case":
            return told
        proof = told[1]
        # A proof that doesn't speak of the thing holds for its other way too.
        if (thing if choice == 0 else -thing) not in proof[0]:
            return told
        proofs.append(proof)
    # Both sayings have only parts that are chosen the other way, so no other thing stands in two ways.
    saying = put_together(proofs[0][0], proofs[1][0], thing)
    return ("clash", (saying, (proofs[0], proofs[1])))


def laid_out(proof):
    steps = []
    lay(proof, steps, {})
    return steps


def lay(proof, steps, places):
    saying = proof[0]
    # One saying may be proved several times over; the first proof is enough.
    if saying not in places:
        reasons = proof[1]
        if len(reasons) == 2:
            reasons = (lay(reasons[0], steps, places), lay(reasons[1], steps, places))
        places[saying] = len(steps)
        steps.append((saying, reasons))
    return places[saying]
