import copy
import itertools
import random
import unittest

from helper import Unwilling, all_sayings_of, fitting_by_hand, refused, true_by_hand
from sayhall.errors import NoSayings, NotPlain
from sayhall.plain import least_case


def told_so(saying):
    return [part for part in saying if part > 0]


def plain_sayings_of(many):
    return [saying for saying in all_sayings_of(many) if len(told_so(saying)) <= 1]


def drawn_plain(draw, many, longest):
    """Plain sayings that often tell a thing to be so, and rarely forbid any."""
    sayings = []
    for _ in range(draw.randint(0, longest)):
        things = sorted(draw.sample(range(1, many + 1), draw.randint(1, min(4, many))))
        so = draw.choice(things + things + [None])
        sayings.append(tuple(thing if thing == so else -thing for thing in things))
    return sayings


class LeastCase(unittest.TestCase):
    def hold_order(self, sayings, order):
        """Each thing once, told so by a saying whose other things stand ahead; the things are given back."""
        self.assertIs(type(order), list)
        ahead = []
        for row in order:
            self.assertIs(type(row), tuple)
            thing, place = row
            self.assertEqual([type(thing), type(place)], [int, int])
            self.assertIn(place, range(len(sayings)))
            self.assertNotIn(thing, ahead)
            self.assertIn(thing, sayings[place])
            self.assertLessEqual({abs(part) for part in sayings[place]} - {thing}, set(ahead), (sayings, order))
            ahead.append(thing)
        return ahead

    def hold(self, sayings, many):
        told = least_case(sayings, many)
        self.assertIs(type(told), tuple)
        self.assertEqual(len(told), 3)
        fitting = fitting_by_hand(sayings, many)
        self.assertEqual(told[0], "case" if fitting else "clash", sayings)
        if fitting:
            case = told[1]
            things = self.hold_order(sayings, told[2])
            self.assertIn(case, fitting)
            self.assertTrue(all(type(value) is int for value in case))
            self.assertEqual(sum(case), min(sum(other) for other in fitting), sayings)
            self.assertEqual(sorted(things), [thing for thing in range(1, many + 1) if case[thing - 1]])
            for other in fitting:
                self.assertTrue(all(other[thing - 1] == 1 for thing in things))
        else:
            things = self.hold_order(sayings, told[1])
            self.assertIs(type(told[2]), int)
            self.assertIn(told[2], range(len(sayings)))
            saying = sayings[told[2]]
            self.assertLessEqual({abs(part) for part in saying}, set(things), sayings)
            self.assertEqual(told_so(saying), [])
        return told[0]

    def test_by_hand(self):
        self.assertEqual(least_case([(1,), (-1, 2)], 3), ("case", [1, 1, 0], [(1, 0), (2, 1)]))
        self.assertEqual(least_case([(-1, 2), (1,)], 3), ("case", [1, 1, 0], [(1, 1), (2, 0)]))
        self.assertEqual(least_case([(-1, 2), (-2, 3)], 3), ("case", [0, 0, 0], []))
        self.assertEqual(least_case([(3,), (1, -3), (-1, -2)], 3), ("case", [1, 0, 1], [(3, 0), (1, 1)]))
        self.assertEqual(least_case([(1,), (-1, 2), (-1, -2)], 2), ("clash", [(1, 0), (2, 1)], 2))
        self.assertEqual(least_case([(-1,), (1,)], 1), ("clash", [(1, 1)], 0))

    def test_no_sayings_at_all(self):
        for many in (1, 2, 16):
            self.assertEqual(least_case([], many), ("case", [0] * many, []))

    def test_the_saying_without_parts(self):
        self.assertEqual(least_case([()], 1), ("clash", [], 0))
        for sayings in itertools.permutations([(), (1,), (-1, 2)]):
            self.assertEqual(self.hold(list(sayings), 2), "clash")
        self.assertEqual(self.hold([(), ()], 2), "clash")
        self.assertEqual(self.hold([(1,), (-1,), ()], 16), "clash")

    def test_nothing_is_so_that_need_not_be(self):
        self.assertEqual(least_case([(-1, 2), (1, -2)], 2), ("case", [0, 0], []))
        self.assertEqual(least_case([(-1,), (-2,)], 2), ("case", [0, 0], []))
        self.assertEqual(least_case([(-1, -2), (2,)], 2), ("case", [0, 1], [(2, 1)]))

    def test_a_thing_told_twice_stands_once(self):
        self.assertEqual(self.hold([(1,), (1,), (1, -2), (2,), (1,)], 2), "case")
        told = least_case([(1,), (1,), (1, -2), (2,), (1,)], 2)
        self.assertEqual(sorted(thing for thing, place in told[2]), [1, 2])

    def test_every_few_plain_sayings(self):
        seen = {"case": 0, "clash": 0}
        for length in range(4):
            for sayings in itertools.product(plain_sayings_of(2), repeat=length):
                seen[self.hold(list(sayings), 2)] += 1
        for sayings in itertools.combinations(plain_sayings_of(3), 3):
            seen[self.hold(list(sayings), 3)] += 1
        self.assertGreater(min(seen.values()), 100)

    def test_many_plain_sayings(self):
        draw = random.Random(11)
        seen = {"case": 0, "clash": 0}
        for _ in range(300):
            many = draw.randint(1, 6)
            seen[self.hold(drawn_plain(draw, many, 24), many)] += 1
        self.assertGreater(min(seen.values()), 50)

    def test_a_long_row_in_each_direction(self):
        up = [(1,)] + [(-thing, thing + 1) for thing in range(1, 16)]
        down = [(16,)] + [(thing, -thing - 1) for thing in range(1, 16)]
        for sayings in (up, up[::-1], down, down[::-1]):
            told = least_case(sayings, 16)
            self.assertEqual(told[:2], ("case", [1] * 16))
            self.assertEqual(sorted(self.hold_order(sayings, told[2])), list(range(1, 17)))
        told = least_case(up[::-1] + [(-1, -16)], 16)
        self.assertEqual(told[0], "clash")
        self.assertEqual(self.hold_order(up[::-1], told[1]), list(range(1, 17)))
        self.assertEqual(told[2], 16)

    def test_sixteen_things_and_twenty_four_sayings(self):
        draw = random.Random(12)
        for _ in range(3):
            self.hold(drawn_plain(draw, 16, 24), 16)

    def test_all_things_of_a_saying_are_waited_for(self):
        self.assertEqual(least_case([(-1, -2, 3), (1,)], 3), ("case", [1, 0, 0], [(1, 1)]))
        self.assertEqual(self.hold([(-1, -2, 3), (1,), (2,)], 3), "case")
        self.assertEqual(self.hold([(-1, -2, -3), (1,), (2,)], 3), "case")
        self.assertEqual(self.hold([(-1, -2, -3), (1,), (2,), (3,)], 3), "clash")

    def test_not_plain(self):
        for sayings in [
            [(1, 2)], [(1, 2, 3)], [(1, -2, 3)], [(-1, 2, 3)], [(1,), (2, 3)], [(1,), (-1, 2), (2, 3), (-3,)],
            [(1, 2)] * 24, [(-1,)] * 23 + [(1, 3)],
        ]:
            with self.subTest(sayings=sayings):
                with self.assertRaises(NotPlain):
                    least_case(sayings, 3)

    def test_not_plain_also_where_the_sayings_clash(self):
        for sayings in [
            [(1, 2), ()], [(), (1, 2)], [(1,), (-1,), (1, 2)], [(1, 2), (-1,), (-2,)], [(1,), (1, 2), (-1,)],
        ]:
            with self.subTest(sayings=sayings):
                self.assertEqual(fitting_by_hand(sayings, 2), [])
                with self.assertRaises(NotPlain):
                    least_case(sayings, 2)

    def test_just_the_sayings_with_two_things_so_are_not_plain(self):
        for saying in all_sayings_of(3):
            if len(told_so(saying)) > 1:
                with self.assertRaises(NotPlain):
                    least_case([saying], 3)
            else:
                self.hold([saying], 3)
                self.assertTrue(saying == () or true_by_hand(saying, least_case([saying], 3)[1]))

    def test_no_sayings_comes_ahead_of_not_plain(self):
        for place, (sayings, many) in enumerate(refused()):
            with self.subTest(place=place):
                with self.assertRaises(NoSayings):
                    least_case(sayings, many)
        for sayings, many in [
            ([(1, 2), (2, 1)], 2), ([(1, 2), None], 2), ([(1, 2)] * 25, 2), ([(1, 2)], 1), ([(1, 2)], 17),
            ([(1, 2)], True), ([(1, 2), Unwilling()], 2), (((1, 2),), 2), ([(1, 2)], None),
        ]:
            with self.assertRaises(NoSayings):
                least_case(sayings, many)

    def test_what_is_handed_in_stays_as_it_was(self):
        for sayings in ([(1,), (-1, 2)], [(1,), (-1,)], [(), (1,)], [], [(1,), (1, 2)]):
            before = copy.deepcopy(sayings)
            try:
                least_case(sayings, 2)
            except NotPlain:
                pass
            self.assertEqual(sayings, before)

    def test_new_lists_each_time(self):
        for sayings in ([(1,), (-1, 2)], [(1,), (-1,)], [()], []):
            told, again = least_case(sayings, 2), least_case(sayings, 2)
            self.assertEqual(told, again)
            for one, other in zip(told, again):
                if isinstance(one, list):
                    self.assertIsNot(one, other)
                    one.append("more")
            self.assertEqual(least_case(sayings, 2), again)


if __name__ == "__main__":
    unittest.main()
