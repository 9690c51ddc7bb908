import copy
import itertools
import unittest

from helper import (
    all_sayings_of, crossing, drawn_lists, fitting_by_hand, pigeons, refused, samples, true_by_hand,
)
from sayhall.errors import NoSayings
from sayhall.sharpest import alike, sharpest


def sharpest_by_hand(sayings, many):
    fitting = fitting_by_hand(sayings, many)
    follow = {saying for saying in all_sayings_of(many) if all(true_by_hand(saying, case) for case in fitting)}
    return sorted(
        saying for saying in follow
        if not any(saying[:place] + saying[place + 1:] in follow for place in range(len(saying)))
    )


class Sharpest(unittest.TestCase):
    def test_by_hand(self):
        self.assertEqual(sharpest([(1, 2), (-1, 3), (-2,)], 3), [(-2,), (1,), (3,)])
        self.assertEqual(sharpest([(1, 2), (-1, 3)], 3), [(-1, 3), (1, 2), (2, 3)])
        self.assertEqual(sharpest([(1, 2), (1, -2)], 2), [(1,)])
        self.assertEqual(sharpest([(1, 2, 3), (1, 2)], 3), [(1, 2)])

    def test_nothing_said_nothing_follows(self):
        for many in range(1, 17):
            self.assertEqual(sharpest([], many), [])

    def test_what_clashes(self):
        for sayings in [[()], [(1,), ()], [(1,), (-1,)], [(1, 2), (-1, 2), (1, -2), (-1, -2)], [(1,), (-1, 2), (-2,)]]:
            for many in (2, 5, 16):
                self.assertEqual(sharpest(sayings, many), [()])
        self.assertEqual(sharpest(pigeons(), 12), [()])

    def test_held_against_all_sayings_of_few_things(self):
        for sayings, many in samples():
            if many <= 5:
                self.assertEqual(sharpest(sayings, many), sharpest_by_hand(sayings, many), sayings)

    def test_many_sayings_of_few_things(self):
        for many in (3, 4, 5):
            for sayings in drawn_lists(many + 20, 60, many, 14, most=many):
                self.assertEqual(sharpest(sayings, many), sharpest_by_hand(sayings, many), sayings)

    def test_rising_as_tuples_each_once(self):
        for many in (4, 6):
            for sayings in drawn_lists(many + 30, 60, many, 10):
                told = sharpest(sayings, many)
                self.assertIs(type(told), list)
                self.assertEqual(told, sorted(set(told)))
        # By the numbers as they are: -3 stands ahead of -2, and -2 ahead of 1.
        self.assertEqual(sharpest([(3, 4), (-1, 2), (-1, -3)], 4), [(-1, -3), (-1, 2), (-1, 4), (3, 4)])
        self.assertEqual(sharpest([(1, 3), (1, -2), (-3,)], 3), [(-3,), (1,)])

    def test_the_same_fitting_cases_the_same_sharpest(self):
        by_cases = {}
        for sayings, many in samples():
            if many == 3:
                fitting = tuple(map(tuple, fitting_by_hand(sayings, 3)))
                self.assertEqual(by_cases.setdefault(fitting, sharpest(sayings, 3)), sharpest(sayings, 3), sayings)
        sayings = [(1, 2), (-1, 3), (-2, -3, 4)]
        for turned in itertools.permutations(sayings):
            self.assertEqual(sharpest(list(turned), 4), sharpest(sayings, 4))
        self.assertEqual(sharpest(sayings * 8, 4), sharpest(sayings, 4))

    def test_more_than_twenty_four(self):
        self.assertEqual(sharpest(crossing(3), 6), sharpest_by_hand(crossing(3), 6))
        told = sharpest(crossing(8), 16)
        # For each of the eight things the long saying has the thing itself or the one that it brings about.
        long_ones = [
            tuple(sorted(choice)) for choice in itertools.product(*[(thing, thing + 8) for thing in range(1, 9)])
        ]
        self.assertEqual(told, sorted(long_ones + [(-thing, thing + 8) for thing in range(1, 9)]))
        self.assertEqual(len(told), 264)

    def test_sixteen_things(self):
        chain = [(-thing, thing + 1) for thing in range(1, 16)]
        self.assertEqual(sharpest(chain, 16), sorted((-one, other) for one, other in
                                                     itertools.combinations(range(1, 17), 2)))
        self.assertEqual(sharpest([(1,)] + chain, 16), [(thing,) for thing in range(1, 17)])
        self.assertEqual(sharpest([tuple(range(1, 17))], 16), [tuple(range(1, 17))])

    def test_plain_tuples(self):
        for saying in sharpest([(1, 2), (-1, 3)], 3):
            self.assertIs(type(saying), tuple)
            for part in saying:
                self.assertIs(type(part), int)

    def test_no_sayings(self):
        for place, (sayings, many) in enumerate(refused()):
            with self.subTest(place=place):
                with self.assertRaises(NoSayings):
                    sharpest(sayings, many)

    def test_what_is_handed_in_stays_as_it_was(self):
        for sayings in ([(2, 3), (1,), (-1, -3)], [(1,), (-1,)], [(1, 2), ()], []):
            before = copy.deepcopy(sayings)
            sharpest(sayings, 3)
            self.assertEqual(sayings, before)

    def test_a_new_list_each_time(self):
        for sayings in ([(2, 3), (1,), (-1, -3)], [(1, 2)], [()], []):
            told = sharpest(sayings, 3)
            again = sharpest(sayings, 3)
            self.assertEqual(told, again)
            self.assertIsNot(told, again)
            self.assertIsNot(told, sayings)
            told.append((1, 2, 3))
            self.assertEqual(sharpest(sayings, 3), again)


class Alike(unittest.TestCase):
    def hold(self, one, other, many):
        told = alike(one, other, many)
        first, second = fitting_by_hand(one, many), fitting_by_hand(other, many)
        if first == second:
            self.assertIsNone(told, (one, other))
            return
        self.assertIs(type(told), list, (one, other))
        for value in told:
            self.assertIs(type(value), int)
        self.assertEqual((told in first) + (told in second), 1, (one, other))

    def test_alike(self):
        self.assertIsNone(alike([(1, 2), (1, -2)], [(1,)], 2))
        self.assertIsNone(alike([(1,), (-1, 2)], [(2,), (1,)], 3))
        self.assertIsNone(alike([], [], 1))
        self.assertIsNone(alike([()], [(1,), (-1,)], 4))
        self.assertIsNone(alike([(1, 2)], [(1, 2), (1, 2), (1, 2, 3)], 3))

    def test_the_one_case_that_fits_just_one(self):
        self.assertEqual(alike([(1, 2)], [(1,)], 2), [0, 1])
        self.assertEqual(alike([(1,)], [(1, 2)], 2), [0, 1])
        self.assertEqual(alike([], [(1, -2)], 2), [0, 1])
        self.assertEqual(alike([(1, -2)], [], 2), [0, 1])
        self.assertEqual(alike([(1,), (2,)], [()], 2), [1, 1])
        self.assertEqual(alike([()], [(1,), (2,)], 2), [1, 1])

    def test_every_two_pairs_of_two_things(self):
        pairs = [list(pair) for pair in itertools.combinations(all_sayings_of(2), 2)] + [[], [()]]
        for one, other in itertools.product(pairs, repeat=2):
            self.hold(one, other, 2)

    def test_many_lists(self):
        for many in (3, 4):
            lists = list(drawn_lists(many + 40, 40, many, 7))
            for one, other in itertools.product(lists, repeat=2):
                self.hold(one, other, many)

    def test_each_list_and_its_sharpest(self):
        for sayings in drawn_lists(9, 80, 5, 9):
            sharp = sharpest(sayings, 5)
            if len(sharp) <= 24:
                self.assertIsNone(alike(sayings, sharp, 5))
                self.assertIsNone(alike(sharp, sayings, 5))

    def test_sixteen_things_and_full_lists(self):
        chain = [(-thing, thing + 1) for thing in range(1, 16)]
        ring = chain + [(1, -16)]
        back = [(thing, -thing - 1) for thing in range(1, 16)] + [(-1, 16)]
        self.assertIsNone(alike(ring, back, 16))
        self.hold(chain, back, 16)
        self.hold([(1, 2)] * 24, [(1, 2)] * 23 + [(1, 3)], 16)
        self.assertIsNone(alike([(1, 2)] * 24, [(1, 2)], 16))

    def test_no_sayings_for_the_one_and_for_the_other(self):
        for place, (sayings, many) in enumerate(refused()):
            for good in ([], [(1,)], [()]):
                with self.subTest(place=place, good=good):
                    with self.assertRaises(NoSayings):
                        alike(sayings, good, many)
                    with self.assertRaises(NoSayings):
                        alike(good, sayings, many)
            with self.assertRaises(NoSayings):
                alike(sayings, sayings, many)

    def test_what_is_handed_in_stays_as_it_was(self):
        for one, other in [([(2, 3), (1,)], [(1,)]), ([(1,), (-1,)], [()]), ([], [(1, 2)])]:
            before = copy.deepcopy((one, other))
            alike(one, other, 3)
            self.assertEqual((one, other), before)

    def test_a_new_list_each_time(self):
        told = alike([(1, 2)], [(1,)], 2)
        told.clear()
        self.assertEqual(alike([(1, 2)], [(1,)], 2), [0, 1])


if __name__ == "__main__":
    unittest.main()
