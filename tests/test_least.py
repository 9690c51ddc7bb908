import copy
import itertools
import unittest

from helper import (
    HUGE, Unwilling, all_cases, all_sayings_of, crossing, drawn_lists, fitting_by_hand, oddities, pigeons, refused,
    samples, true_by_hand,
)
from sayhall.errors import Fits, NoSayings, NoThing
from sayhall.least import between, forgotten, least_clash
from sayhall.sharpest import sharpest


def clash_by_hand(sayings, many):
    return not fitting_by_hand(sayings, many)


def least_by_hand(sayings, many):
    left = dict(enumerate(sayings))
    for place in range(len(sayings)):
        saying = left.pop(place)
        if not clash_by_hand(left.values(), many):
            left[place] = saying
    return sorted(left)


def things_of(sayings):
    return {abs(part) for saying in sayings for part in saying}


def forgotten_by_hand(sayings, thing):
    told = {saying for saying in sayings if not {thing, -thing} & set(saying)}
    for one, other in itertools.product(sayings, repeat=2):
        if thing in one and -thing in other:
            left = (set(one) - {thing}) | (set(other) - {-thing})
            if not any(-part in left for part in left):
                told.add(tuple(sorted(left, key=abs)))
    return sorted(told)


def turned(case, thing):
    return case[:thing - 1] + [1 - case[thing - 1]] + case[thing:]


class LeastClash(unittest.TestCase):
    def hold(self, sayings, many):
        """The very places that are asked for; whether there were any is given back."""
        if not clash_by_hand(sayings, many):
            with self.assertRaises(Fits):
                least_clash(sayings, many)
            return False
        told = least_clash(sayings, many)
        self.assertIs(type(told), list)
        self.assertEqual(told, least_by_hand(sayings, many), sayings)
        self.assertEqual(told, sorted(set(told)))
        self.assertTrue(clash_by_hand([sayings[place] for place in told], many))
        for place in told:
            self.assertFalse(clash_by_hand([sayings[other] for other in told if other != place], many))
        return True

    def test_taken_out_from_the_first_on(self):
        # There are several least clashes; the later places are the ones that stay.
        self.assertEqual(least_clash([(1,), (-1,), (1,), (-1,)], 1), [2, 3])
        self.assertEqual(least_clash([(1,), (-1,), (2,), (-2,)], 2), [2, 3])
        self.assertEqual(least_clash([(-1,), (1, 2), (-2,), (1,)], 2), [0, 3])
        self.assertEqual(least_clash([(1,), (-1,), (1, 2), (-2,)], 2), [1, 2, 3])
        self.assertEqual(least_clash([(2,), (1,), (3,), (-1,), (2, 3)], 3), [1, 3])

    def test_the_saying_without_parts(self):
        self.assertEqual(least_clash([()], 1), [0])
        self.assertEqual(least_clash([(), ()], 1), [1])
        self.assertEqual(least_clash([(), (1,), (-1,)], 1), [1, 2])
        self.assertEqual(least_clash([(1,), (-1,), ()], 1), [2])
        self.assertEqual(least_clash([(1,), (), (-1,)], 1), [1])

    def test_the_very_places_over_all_few_sayings(self):
        for sayings, many in samples():
            if many <= 5:
                self.hold(sayings, many)
        for length in range(6):
            for sayings in itertools.permutations([(), (1,), (-1,), (1, 2), (-2,)], length):
                self.hold(list(sayings), 2)

    def test_the_very_places_of_many_sayings(self):
        found = 0
        for many in (3, 4):
            for sayings in drawn_lists(many + 50, 80, many, 24):
                found += self.hold(sayings, many)
        self.assertGreater(found, 60)

    def test_all_of_them_are_needed(self):
        chain = [(1,)] + [(-thing, thing + 1) for thing in range(1, 16)] + [(-16,)]
        self.assertEqual(least_clash(chain, 16), list(range(17)))
        self.assertEqual(least_clash(pigeons(), 12), list(range(22)))
        self.assertEqual(least_clash([()] + pigeons(), 12), list(range(1, 23)))

    def test_fits(self):
        for sayings in [[], [(1,)], [(1, 2), (-1, -2)], [(1, 2), (-1, 2), (1, -2)], [(2,)] * 24]:
            with self.subTest(sayings=sayings):
                with self.assertRaises(Fits):
                    least_clash(sayings, 2)
        with self.assertRaises(Fits):
            least_clash(pigeons()[1:], 12)

    def test_no_sayings_comes_ahead_of_fits(self):
        for place, (sayings, many) in enumerate(refused()):
            with self.subTest(place=place):
                with self.assertRaises(NoSayings):
                    least_clash(sayings, many)
        for sayings, many in [([(1,), (2, 1)], 2), ([(1,)] * 25, 2), ([(3,)], 2), ([], 0), ([], 17), ([], True)]:
            with self.assertRaises(NoSayings):
                least_clash(sayings, many)

    def test_what_is_handed_in_stays_as_it_was(self):
        for sayings in ([(1,), (2,), (-1,), (-2,)], [(), (1, 2)], [(1, 2)], []):
            before = copy.deepcopy(sayings)
            try:
                least_clash(sayings, 2)
            except Fits:
                pass
            self.assertEqual(sayings, before)

    def test_a_new_list_each_time(self):
        told = least_clash([(1,), (-1,)], 1)
        self.assertIsNot(told, least_clash([(1,), (-1,)], 1))
        told.clear()
        self.assertEqual(least_clash([(1,), (-1,)], 1), [0, 1])


class Between(unittest.TestCase):
    def hold(self, one, other, many):
        told = between(one, other, many)
        self.assertIs(type(told), tuple)
        self.assertEqual(len(told), 2)
        fitting = fitting_by_hand(one + other, many)
        if fitting:
            self.assertEqual(told[0], "case", (one, other))
            self.assertIn(told[1], fitting)
            self.assertTrue(all(type(value) is int for value in told[1]))
            return "case"
        self.assertEqual(told[0], "between", (one, other))
        common = things_of(one) & things_of(other)
        self.assertEqual(told[1], [saying for saying in sharpest(one, many) if things_of([saying]) <= common])
        self.assertEqual(told[1], sorted(set(told[1])))
        self.assertTrue(clash_by_hand(told[1] + other, many), (one, other))
        for case in fitting_by_hand(one, many):
            self.assertTrue(all(true_by_hand(saying, case) for saying in told[1]))
        return "between"

    def test_by_hand(self):
        self.assertEqual(between([(1,), (-1, 2)], [(-2, 3), (-3,)], 3), ("between", [(2,)]))
        self.assertEqual(between([(-2, 3), (-3,)], [(1,), (-1, 2)], 3), ("between", [(-2,)]))
        self.assertEqual(between([(1,), (2,), (3,)], [(-1, -2)], 3), ("between", [(1,), (2,)]))
        self.assertEqual(between([(1, 2), (-1, 3)], [(-2,), (-3,)], 3), ("between", [(2, 3)]))

    def test_all_of_them_though_some_would_do(self):
        self.assertEqual(between([(1,), (2,)], [(-1,), (2, 3)], 3), ("between", [(1,), (2,)]))

    def test_things_that_stand_in_both_whether_they_matter_or_not(self):
        # The second thing stands in the first list, though nothing there hangs on it.
        one = [(1, 2), (1, -2)]
        self.assertEqual(between(one, [(-1, 2), (-1, -2)], 2), ("between", [(1,)]))
        self.assertEqual(between([(1,), (2,)], [(-1,), (2, -3), (3,)], 3), ("between", [(1,), (2,)]))

    def test_a_case_that_fits_both(self):
        self.assertEqual(between([(1,)], [(-2,)], 2), ("case", [1, 0]))
        self.assertEqual(between([(1, 2)], [(-1,)], 2), ("case", [0, 1]))
        self.assertEqual(self.hold([], [], 3), "case")
        self.assertEqual(self.hold([(1, 2)], [(-1, -2), (3,)], 3), "case")

    def test_no_thing_in_common(self):
        self.assertEqual(between([(1,)], [(2,), (-2,)], 2), ("between", []))
        self.assertEqual(between([(1,), (-1,)], [(2,)], 2), ("between", [()]))
        self.assertEqual(between([(1,), (-1,)], [(2,), (-2,)], 2), ("between", [()]))
        self.assertEqual(between([], [()], 2), ("between", []))
        self.assertEqual(between([()], [], 2), ("between", [()]))
        self.assertEqual(self.hold([(1,)], [(2,)], 2), "case")

    def test_a_list_that_clashes_by_itself(self):
        self.assertEqual(between([(1,), (-1,)], [(1, 2)], 2), ("between", [()]))
        self.assertEqual(between([(1, 2)], [(1,), (-1,)], 2), ("between", []))
        self.assertEqual(between([(1,), (2,)], [(1,), (-1,)], 2), ("between", [(1,)]))
        self.assertEqual(between([(1,)], [(1,), ()], 2), ("between", [(1,)]))
        self.assertEqual(between([()], [()], 2), ("between", [()]))

    def test_every_two_pairs_of_two_things(self):
        pairs = [list(pair) for pair in itertools.combinations(all_sayings_of(2), 2)] + [[], [()]]
        for one, other in itertools.product(pairs, repeat=2):
            self.hold(one, other, 2)

    def test_many_lists(self):
        seen = {"case": 0, "between": 0}
        for many in (3, 4, 5):
            lists = list(drawn_lists(many + 60, 30, many, 8))
            for one, other in itertools.product(lists, repeat=2):
                seen[self.hold(one, other, many)] += 1
        self.assertGreater(min(seen.values()), 300)

    def test_more_than_twenty_four_are_told(self):
        told = between(crossing(8), [(-thing,) for thing in range(1, 17)], 16)
        self.assertEqual(told, ("between", sharpest(crossing(8), 16)))
        self.assertEqual(len(told[1]), 264)
        # Without the first eight things the long saying of the last eight is all that is left.
        told = between(crossing(8), [(-thing,) for thing in range(9, 17)], 16)
        self.assertEqual(told, ("between", [tuple(range(9, 17))]))

    def test_two_full_lists(self):
        self.assertEqual(between([(1,)] * 24, [(-1, 2)] * 24, 2), ("case", [1, 1]))
        self.assertEqual(between([(1,)] * 24, [(-1,)] * 24, 16), ("between", [(1,)]))

    def test_the_same_list_twice(self):
        fit, clash = [(1, 2), (-1,)], [(1,), (-1,)]
        self.assertEqual(between(fit, fit, 2), ("case", [0, 1]))
        self.assertEqual(between(clash, clash, 2), ("between", [()]))

    def test_no_sayings_for_the_one_and_for_the_other(self):
        for place, (sayings, many) in enumerate(refused()):
            for good in ([], [(1,)], [()]):
                with self.subTest(place=place, good=good):
                    with self.assertRaises(NoSayings):
                        between(sayings, good, many)
                    with self.assertRaises(NoSayings):
                        between(good, sayings, many)
            with self.assertRaises(NoSayings):
                between(sayings, sayings, many)

    def test_what_is_handed_in_stays_as_it_was(self):
        for one, other in [([(2, 3), (1,)], [(-1,)]), ([(1,), (-1,)], [()]), ([], [(1, 2)]), ([(1, 2)], [(3,)])]:
            before = copy.deepcopy((one, other))
            between(one, other, 3)
            self.assertEqual((one, other), before)

    def test_new_lists_each_time(self):
        for one, other in [([(1,)], [(-1,)]), ([(1,)], [(2,)]), ([()], [])]:
            told = between(one, other, 2)
            again = between(one, other, 2)
            self.assertEqual(told, again)
            self.assertIsNot(told[1], again[1])
            told[1].clear()
            self.assertEqual(between(one, other, 2), again)


class Forgotten(unittest.TestCase):
    def hold(self, sayings, many, thing):
        told = forgotten(sayings, many, thing)
        self.assertIs(type(told), list)
        self.assertEqual(told, forgotten_by_hand(sayings, thing), (sayings, thing))
        self.assertEqual(told, sorted(set(told)))
        self.assertNotIn(thing, things_of(told))
        for case in all_cases(many):
            fit = [all(true_by_hand(saying, way) for saying in sayings) for way in (case, turned(case, thing))]
            self.assertEqual(all(true_by_hand(saying, case) for saying in told), any(fit), (sayings, thing, case))

    def test_by_hand(self):
        self.assertEqual(forgotten([(1, 2), (-1, 3), (2, 3, 4)], 4, 1), [(2, 3), (2, 3, 4)])
        self.assertEqual(forgotten([(1, 2), (-1, 3), (2, 3, 4)], 4, 2), [(-1, 3)])
        self.assertEqual(forgotten([(-1, 3), (1, 2)], 3, 3), [(1, 2)])
        self.assertEqual(forgotten([(2, -3), (1, 3), (-1, 4)], 4, 3), [(-1, 4), (1, 2)])

    def test_each_with_each(self):
        self.assertEqual(forgotten([(1, 2), (1, 3), (-1, 4), (-1, -5)], 5, 1), [(2, -5), (2, 4), (3, -5), (3, 4)])

    def test_unless_another_thing_stands_in_two_ways(self):
        self.assertEqual(forgotten([(1, 2), (-1, -2)], 2, 1), [])
        self.assertEqual(forgotten([(1, 2), (-1, -2), (1, 3)], 3, 1), [(-2, 3)])
        self.assertEqual(forgotten([(1, 2, 3), (-1, -2, 3), (-1, 2)], 3, 1), [(2, 3)])

    def test_what_the_others_say_more_sharply_stays_too(self):
        self.assertEqual(forgotten([(2,), (2, 3)], 3, 1), [(2,), (2, 3)])
        self.assertEqual(forgotten([(1, 2), (-1, 3), (2,)], 3, 1), [(2,), (2, 3)])

    def test_each_once(self):
        self.assertEqual(forgotten([(2,), (2,), (1, 2), (-1, 2), (1, 2)], 2, 1), [(2,)])
        self.assertEqual(forgotten([(3,), (2,), (3,)], 3, 1), [(2,), (3,)])

    def test_the_saying_without_parts(self):
        self.assertEqual(forgotten([(1,), (-1,)], 1, 1), [()])
        self.assertEqual(forgotten([()], 1, 1), [()])
        self.assertEqual(forgotten([(1,), ()], 2, 1), [()])
        self.assertEqual(forgotten([(1,), (-1,), ()], 2, 1), [()])

    def test_none_left(self):
        self.assertEqual(forgotten([], 3, 2), [])
        self.assertEqual(forgotten([(1,), (1, 2)], 2, 1), [])
        self.assertEqual(forgotten([(-1,), (-1, 2)], 2, 1), [])

    def test_all_few_sayings(self):
        for sayings, many in samples():
            if many <= 5:
                for thing in range(1, many + 1):
                    self.hold(sayings, many, thing)

    def test_many_sayings_of_few_things(self):
        for many in (3, 5):
            for sayings in drawn_lists(many + 70, 40, many, 24, most=many):
                for thing in range(1, many + 1):
                    self.hold(sayings, many, thing)

    def test_more_than_twenty_four(self):
        sayings = [(1, thing) for thing in range(2, 10)] + [(-1, thing) for thing in range(10, 17)]
        told = forgotten(sayings, 16, 1)
        self.assertEqual(told, sorted(itertools.product(range(2, 10), range(10, 17))))
        self.assertEqual(len(told), 56)

    def test_the_first_and_the_last_thing(self):
        self.assertEqual(forgotten([(1, 16), (-1, 2)], 16, 1), [(2, 16)])
        self.assertEqual(forgotten([(1, 16), (2, -16)], 16, 16), [(1, 2)])

    def test_no_sayings_comes_ahead_of_no_thing(self):
        for place, (sayings, many) in enumerate(refused()):
            for thing in (1, 0, 99, True, None, Unwilling()):
                with self.subTest(place=place):
                    with self.assertRaises(NoSayings):
                        forgotten(sayings, many, thing)

    def test_no_thing(self):
        for thing in [0, 4, -1, -3, 17, HUGE, -HUGE, True, False, "1", "", None, 1.0, (1,), [1], Unwilling()]:
            for sayings in ([(1, 2)], [], [()]):
                with self.assertRaises(NoThing):
                    forgotten(sayings, 3, thing)
        for name, thing in oddities().items():
            with self.subTest(name=name):
                with self.assertRaises(NoThing):
                    forgotten([(1,)], 3, thing)

    def test_how_many_things_there_are_is_heeded(self):
        for many in range(1, 17):
            self.assertEqual(forgotten([(many,)], many, many), [])
            with self.assertRaises(NoThing):
                forgotten([(many,)], many, many + 1)

    def test_what_is_handed_in_stays_as_it_was(self):
        for sayings in ([(2, 3), (1,), (-1, -3)], [(3,), (2,), (3,)], [(1, 2), ()], []):
            before = copy.deepcopy(sayings)
            forgotten(sayings, 3, 1)
            self.assertEqual(sayings, before)

    def test_a_new_list_each_time(self):
        for sayings in ([(2, 3)], [(1, 2), (-1, 3)], []):
            told = forgotten(sayings, 3, 1)
            again = forgotten(sayings, 3, 1)
            self.assertEqual(told, again)
            self.assertIsNot(told, again)
            self.assertIsNot(told, sayings)
            told.append((1,))
            self.assertEqual(forgotten(sayings, 3, 1), again)


if __name__ == "__main__":
    unittest.main()
