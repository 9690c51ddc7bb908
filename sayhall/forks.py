"""The fitting cases of sayings, told as forks: thing by thing, what fits if it is not so, and what if it is.

A fork is a row (thing, low, high): the first thing that matters, and the places of the rows for what fits if it is not
so and if it is. Each row is kept once, so two places are equal just if the same cases fit there.
"""

NO_CASE = 0
EVERY_CASE = 1


class Forks:
    def __init__(self):
        # The places NO_CASE and EVERY_CASE are the ends: no thing matters there, so they have no row.
        self.rows = [None, None]
        self.place_by_row = {}
        self.place_by_sayings = {}
        self.place_by_pair = {}

    def fork(self, thing, low, high):
        if low == high:
            return low
        row = (thing, low, high)
        if row not in self.place_by_row:
            self.place_by_row[row] = len(self.rows)
            self.rows.append(row)
        return self.place_by_row[row]

    # The sayings are a tuple, so that what was found for them can be kept.
    def all_of(self, sayings):
        if () in sayings:
            return NO_CASE
        if not sayings:
            return EVERY_CASE
        if sayings not in self.place_by_sayings:
            thing = min([abs(saying[0]) for saying in sayings])
            low = self.all_of(left_over(sayings, -thing))
            high = self.all_of(left_over(sayings, thing))
            self.place_by_sayings[sayings] = self.fork(thing, low, high)
        return self.place_by_sayings[sayings]

    def either_of(self, one, other):
        if one == other or other == NO_CASE:
            return one
        if one == NO_CASE or other == EVERY_CASE:
            return other
        if one == EVERY_CASE:
            return one
        pair = (min(one, other), max(one, other))
        if pair not in self.place_by_pair:
            thing = min(self.rows[one][0], self.rows[other][0])
            low = self.either_of(self.side(one, thing, 0), self.side(other, thing, 0))
            high = self.either_of(self.side(one, thing, 1), self.side(other, thing, 1))
            self.place_by_pair[pair] = self.fork(thing, low, high)
        return self.place_by_pair[pair]

    def side(self, place, thing, choice):
        row = self.rows[place]
        # Where the row's own thing comes later, this thing's way doesn't matter.
        return row[1 + choice] if row[0] == thing else place


# No saying may have a thing ahead of the part's: then the first part alone has to be looked at.
def left_over(sayings, part):
    found = []
    for saying in sayings:
        if saying[0] == -part:
            found.append(saying[1:])
        elif saying[0] != part:
            found.append(saying)
    # In one order and each once: what is left over is then the same by more ways, and found again.
    return tuple(sorted(set(found)))
