import copy
import itertools
import unittest

from helper import HUGE, Unwilling, all_cases, oddities
from sayhall.errors import NoCase, NoSayings
from sayhall.sayings import checked, fits, is_case, is_saying

WRONG_MANY = [0, -1, 17, HUGE, True, False, None, "1", "", 1.0, 2.5, [1], (1,), {}, Unwilling()]
WRONG_SAYINGS = [
    ((1,), (2,)), (), "", "12", None, 1, True, {}, {(1,)}, range(2), iter([(1,)]),
    [(1,), [2], (2,)], [(1,), (2, 1)], [(1, 1)], [(1, -1)], [(0,)], [(4,)], [(-4,)], [(True,)], [("1",)],
    [(1.0,)], [None], [1], ["1"], [()] * 25, [(1,)] * 25, [(1,)] * 24 + [None], [(1,), Unwilling()], [(HUGE,)],
]


class IsSaying(unittest.TestCase):
    def test_sayings(self):
        for thing in [(), (1,), (-1,), (3,), (-3,), (1, 2), (-1, 2), (1, -3), (-2, -3), (1, 2, 3), (-1, -2, -3)]:
            with self.subTest(thing=thing):
                self.assertIs(is_saying(thing, 3), True)

    def test_no_sayings(self):
        for thing in [
            [], [1], [1, 2], (2, 1), (1, 3, 2), (-3, -2), (1, 1), (1, 2, 2), (1, -1), (-1, 1), (1, 2, -2),
            (0,), (0, 1), (1, 0), (4,), (-4,), (1, 4), (1, -4), (True,), (False,), (True, 2), (1, True),
            "1", ("1",), (1, "2"), (1.0,), (1, 2.0), (None,), ((1,),), ([1],), 1, -1, 0,
        ]:
            with self.subTest(thing=thing):
                self.assertIs(is_saying(thing, 3), False)
        self.assertIs(is_saying((HUGE,), 3), False)
        self.assertIs(is_saying((-HUGE,), 3), False)

    def test_anything_whatever(self):
        for name, thing in oddities().items():
            with self.subTest(name=name):
                self.assertIs(is_saying(thing, 3), False)

    def test_how_many_things_there_are_is_heeded(self):
        for many in range(1, 17):
            with self.subTest(many=many):
                self.assertIs(is_saying((), many), True)
                self.assertIs(is_saying((many,), many), True)
                self.assertIs(is_saying((-many,), many), True)
                self.assertIs(is_saying((many + 1,), many), False)
                self.assertIs(is_saying((-many - 1,), many), False)

    def test_all_sixteen_things(self):
        self.assertIs(is_saying(tuple(range(1, 17)), 16), True)
        self.assertIs(is_saying(tuple(-thing for thing in range(1, 17)), 16), True)
        self.assertIs(is_saying(tuple(range(1, 17)), 15), False)
        self.assertIs(is_saying(tuple(range(1, 18)), 16), False)

    def test_every_short_tuple(self):
        for length in range(4):
            for thing in itertools.product(range(-4, 5), repeat=length):
                things = [abs(part) for part in thing]
                right = things == sorted(set(things)) and all(1 <= number <= 3 for number in things)
                self.assertIs(is_saying(thing, 3), right, thing)


class Checked(unittest.TestCase):
    def test_equal_but_new(self):
        sayings = [(1, -2), (), (3,), (3,)]
        told = checked(sayings, 3)
        self.assertEqual(told, [(1, -2), (), (3,), (3,)])
        self.assertIsNot(told, sayings)
        self.assertIsNot(checked(sayings, 3), told)
        told.append((2,))
        self.assertEqual(sayings, [(1, -2), (), (3,), (3,)])
        self.assertEqual(checked(sayings, 3), [(1, -2), (), (3,), (3,)])

    def test_no_sayings_at_all_are_sayings(self):
        sayings = []
        told = checked(sayings, 1)
        self.assertEqual(told, [])
        self.assertIsNot(told, sayings)

    def test_twenty_four_and_one_more(self):
        self.assertEqual(checked([(1,)] * 24, 1), [(1,)] * 24)
        with self.assertRaises(NoSayings):
            checked([(1,)] * 25, 1)

    def test_sixteen_things(self):
        self.assertEqual(checked([tuple(range(1, 17)), (-16,)], 16), [tuple(range(1, 17)), (-16,)])

    def test_every_good_many(self):
        for many in range(1, 17):
            self.assertEqual(checked([(many,), (-many,)], many), [(many,), (-many,)])

    def test_wrong_sayings(self):
        for place, sayings in enumerate(WRONG_SAYINGS):
            with self.subTest(place=place):
                with self.assertRaises(NoSayings):
                    checked(sayings, 3)

    def test_one_wrong_among_good_ones_at_each_place(self):
        for place in range(24):
            sayings = [(1, 2)] * 24
            sayings[place] = (2, 1)
            with self.assertRaises(NoSayings):
                checked(sayings, 2)

    def test_anything_whatever(self):
        for name, thing in oddities().items():
            with self.subTest(name=name):
                with self.assertRaises(NoSayings):
                    checked(thing, 3)
                with self.assertRaises(NoSayings):
                    checked([thing], 3)
                with self.assertRaises(NoSayings):
                    checked([], thing)

    def test_wrong_many(self):
        for place, many in enumerate(WRONG_MANY):
            with self.subTest(place=place):
                with self.assertRaises(NoSayings):
                    checked([], many)
                with self.assertRaises(NoSayings):
                    checked([()], many)

    def test_what_is_refused_stays_as_it_was(self):
        sayings = [(1,), [2, 1], (3,)]
        with self.assertRaises(NoSayings):
            checked(sayings, 3)
        self.assertEqual(sayings, [(1,), [2, 1], (3,)])


class IsCase(unittest.TestCase):
    def test_cases(self):
        for many in (1, 2, 3, 4):
            for case in all_cases(many):
                self.assertIs(is_case(case, many), True)
        self.assertIs(is_case([0, 1] * 8, 16), True)

    def test_no_cases(self):
        for thing in [
            [], [0], [0, 1], [0, 1, 0, 1], [0, 1, 2], [0, -1, 1], [0, True, 1], [False, 0, 0], [1, 1, True],
            (0, 1, 0), "010", ["0", "1", "0"], [0, 1, "0"], [0, 1.0, 0], [0.0, 0, 0], [0, None, 1], [0, [1], 0],
            None, 0, 1, 3, True, {0: 0, 1: 1, 2: 0}, range(3),
        ]:
            with self.subTest(thing=thing):
                self.assertIs(is_case(thing, 3), False)
        self.assertIs(is_case([0, HUGE, 0], 3), False)
        self.assertIs(is_case([0, Unwilling(), 0], 3), False)

    def test_anything_whatever(self):
        for name, thing in oddities().items():
            for many in (1, 2, 16):
                with self.subTest(name=name, many=many):
                    self.assertIs(is_case(thing, many), False)

    def test_how_many_things_there_are_is_heeded(self):
        for many in range(1, 17):
            self.assertIs(is_case([1] * many, many), True)
            self.assertIs(is_case([1] * (many + 1), many), False)
            self.assertIs(is_case([1] * (many - 1), many), False)


class FitsOrNot(unittest.TestCase):
    def test_one_part(self):
        self.assertIs(fits([(1,)], 1, [1]), True)
        self.assertIs(fits([(1,)], 1, [0]), False)
        self.assertIs(fits([(-1,)], 1, [0]), True)
        self.assertIs(fits([(-1,)], 1, [1]), False)

    def test_one_part_that_is_so_is_enough(self):
        truths = [(case, fits([(1, -3)], 3, case)) for case in all_cases(3)]
        self.assertEqual([case for case, told in truths if told is False], [[0, 0, 1], [0, 1, 1]])
        self.assertEqual(sum(told is True for case, told in truths), 6)

    def test_all_sayings_must_be_true(self):
        sayings = [(1, 2), (-1, 3), (-2, -3)]
        self.assertEqual([case for case in all_cases(3) if fits(sayings, 3, case)], [[0, 1, 0], [1, 0, 1]])

    def test_the_last_saying_counts_too(self):
        self.assertIs(fits([(1,), (2,), (-3,)], 3, [1, 1, 1]), False)
        self.assertIs(fits([(-1,), (2,), (3,)], 3, [1, 1, 1]), False)

    def test_the_saying_without_parts_is_never_true(self):
        for case in all_cases(2):
            self.assertIs(fits([()], 2, case), False)
            self.assertIs(fits([(1, 2), ()], 2, case), False)
            self.assertIs(fits([(), (-1, 2)], 2, case), False)

    def test_every_case_fits_no_sayings(self):
        for case in all_cases(3):
            self.assertIs(fits([], 3, case), True)

    def test_sixteen_things(self):
        self.assertIs(fits([(16,), (-15,)], 16, [0] * 15 + [1]), True)
        self.assertIs(fits([(16,), (-15,)], 16, [0] * 14 + [1, 1]), False)

    def test_no_sayings(self):
        for place, sayings in enumerate(WRONG_SAYINGS):
            with self.subTest(place=place):
                with self.assertRaises(NoSayings):
                    fits(sayings, 3, [0, 0, 0])
        for many in WRONG_MANY:
            with self.assertRaises(NoSayings):
                fits([], many, [0])

    def test_no_sayings_comes_ahead_of_no_case(self):
        for case in [None, [0], [0, 2, 0], (0, 0, 0), Unwilling()]:
            with self.assertRaises(NoSayings):
                fits([(2, 1)], 3, case)
            with self.assertRaises(NoSayings):
                fits(None, 3, case)
            with self.assertRaises(NoSayings):
                fits([(1,)], 0, case)
        with self.assertRaises(NoSayings):
            fits([], 17, None)

    def test_no_case(self):
        for case in [[], [0], [0, 0], [0] * 4, [0, 2, 0], [0, -1, 0], [0, True, 0], (0, 0, 0), "000", None, 0]:
            for sayings in ([(1, 2)], [], [()]):
                with self.subTest(case=case, sayings=sayings):
                    with self.assertRaises(NoCase):
                        fits(sayings, 3, case)
        for name, thing in oddities().items():
            with self.subTest(name=name):
                with self.assertRaises(NoCase):
                    fits([(1,)], 1, thing)

    def test_what_is_handed_in_stays_as_it_was(self):
        sayings, case = [(1, -2), (2, 3)], [1, 0, 1]
        before = copy.deepcopy((sayings, case))
        for _ in range(2):
            self.assertIs(fits(sayings, 3, case), True)
            self.assertEqual((sayings, case), before)


if __name__ == "__main__":
    unittest.main()
