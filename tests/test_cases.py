import copy
import itertools
import unittest

from helper import fitting_by_hand, refused, samples
from sayhall.cases import cases, settled
from sayhall.errors import Clash, NoSayings


def settled_by_hand(sayings, many):
    fitting = fitting_by_hand(sayings, many)
    told = []
    for thing in range(1, many + 1):
        seen = {case[thing - 1] for case in fitting}
        if len(seen) == 1:
            told.append(thing if seen == {1} else -thing)
    return told


class AllCases(unittest.TestCase):
    def test_told_by_hand(self):
        self.assertEqual(cases([(1, 2), (-1, 3)], 3), [[0, 1, 0], [0, 1, 1], [1, 0, 1], [1, 1, 1]])
        self.assertEqual(cases([(-2,)], 2), [[0, 0], [1, 0]])

    def test_all_when_nothing_is_said(self):
        self.assertEqual(cases([], 1), [[0], [1]])
        self.assertEqual(cases([], 2), [[0, 0], [0, 1], [1, 0], [1, 1]])
        told = cases([], 16)
        self.assertEqual(len(told), 65536)
        self.assertEqual(told, sorted(told))
        self.assertEqual(told[0], [0] * 16)
        self.assertEqual(told[1], [0] * 15 + [1])
        self.assertEqual(told[-1], [1] * 16)

    def test_none(self):
        self.assertEqual(cases([()], 1), [])
        self.assertEqual(cases([()], 16), [])
        self.assertEqual(cases([(1,), ()], 2), [])
        self.assertEqual(cases([(1,), (-1,)], 3), [])
        self.assertEqual(cases([(1, 2), (-1, 2), (1, -2), (-1, -2)], 2), [])

    def test_just_those_that_fit_rising(self):
        for sayings, many in samples():
            self.assertEqual(cases(sayings, many), fitting_by_hand(sayings, many), sayings)

    def test_order_and_repeats_of_sayings_change_nothing(self):
        sayings = [(1, 2), (-1, 3), (-2, -3, 4)]
        told = cases(sayings, 4)
        for turned in itertools.permutations(sayings):
            self.assertEqual(cases(list(turned), 4), told)
        self.assertEqual(cases(sayings * 8, 4), told)

    def test_plain_numbers_in_plain_lists(self):
        for case in cases([(1, 2)], 2):
            self.assertIs(type(case), list)
            for value in case:
                self.assertIs(type(value), int)

    def test_new_lists_each_time(self):
        sayings = [(1, 2)]
        told = cases(sayings, 2)
        again = cases(sayings, 2)
        self.assertEqual(told, again)
        self.assertIsNot(told, again)
        for one, other in itertools.combinations(told + again, 2):
            self.assertIsNot(one, other)
        told[0][0] = 7
        told.clear()
        self.assertEqual(cases(sayings, 2), [[0, 1], [1, 0], [1, 1]])
        cases([()], 2).append([0, 0])
        self.assertEqual(cases([()], 2), [])

    def test_what_is_handed_in_stays_as_it_was(self):
        sayings = [(2, 3), (1,), (-1, -3)]
        before = copy.deepcopy(sayings)
        cases(sayings, 3)
        self.assertEqual(sayings, before)

    def test_no_sayings(self):
        for place, (sayings, many) in enumerate(refused()):
            with self.subTest(place=place):
                with self.assertRaises(NoSayings):
                    cases(sayings, many)


class Settled(unittest.TestCase):
    def test_so_in_all_in_none_and_neither(self):
        self.assertEqual(settled([(1,), (-3,)], 4), [1, -3])
        self.assertEqual(settled([(1, 2), (1, -2), (-1, -3)], 4), [1, -3])

    def test_by_things_whatever_the_order_of_sayings(self):
        self.assertEqual(settled([(4,), (-3,), (2,), (-1,)], 4), [-1, 2, -3, 4])

    def test_nothing_settled(self):
        self.assertEqual(settled([], 3), [])
        self.assertEqual(settled([], 16), [])
        self.assertEqual(settled([(1, 2), (-1, -2)], 2), [])

    def test_sixteen_things(self):
        chain = [(1,)] + [(-thing, thing + 1) for thing in range(1, 16)]
        self.assertEqual(settled(chain, 16), list(range(1, 17)))
        self.assertEqual(settled([(-16,)], 16), [-16])

    def test_as_the_fitting_cases_tell(self):
        for sayings, many in samples():
            if fitting_by_hand(sayings, many):
                self.assertEqual(settled(sayings, many), settled_by_hand(sayings, many), sayings)
            else:
                with self.assertRaises(Clash):
                    settled(sayings, many)

    def test_clash(self):
        for sayings in [[()], [(1,), ()], [(1,), (-1,)], [(1, 2), (-1, 2), (1, -2), (-1, -2)]]:
            with self.subTest(sayings=sayings):
                with self.assertRaises(Clash):
                    settled(sayings, 2)

    def test_no_sayings_comes_ahead_of_clash(self):
        for sayings, many in [
            ([(1,), (-1,), (2, 1)], 2), ([()] * 25, 2), ([(1,), (-1,), (3,)], 2), ([()], 0), ([()], 17),
            ([(), [1]], 2), (((),), 2), ([()], True),
        ]:
            with self.subTest(sayings=sayings, many=many):
                with self.assertRaises(NoSayings):
                    settled(sayings, many)

    def test_no_sayings(self):
        for place, (sayings, many) in enumerate(refused()):
            with self.subTest(place=place):
                with self.assertRaises(NoSayings):
                    settled(sayings, many)

    def test_a_new_list_each_time(self):
        sayings = [(1,), (-2,)]
        told = settled(sayings, 2)
        self.assertIsNot(settled(sayings, 2), told)
        told.clear()
        self.assertEqual(settled(sayings, 2), [1, -2])

    def test_what_is_handed_in_stays_as_it_was(self):
        for sayings in ([(2, 3), (1,), (-1, -3)], [(1,), (-1,)]):
            before = copy.deepcopy(sayings)
            try:
                settled(sayings, 3)
            except Clash:
                pass
            self.assertEqual(sayings, before)


if __name__ == "__main__":
    unittest.main()
