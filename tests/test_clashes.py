import copy
import itertools
import random
import unittest

from helper import (
    HUGE, Unwilling, all_sayings_of, drawn_lists, drawn_saying, fitting_by_hand, oddities, pigeons, refused,
    samples, true_by_hand,
)
from sayhall.clashes import case_or_clash, follows
from sayhall.errors import NoSaying, NoSayings


class Walked(unittest.TestCase):
    """Holds what is told to the words of the document."""

    def walk(self, sayings, steps):
        """Every step stands in the sayings, or is put together of two earlier ones; the last saying is given back."""
        self.assertIs(type(steps), list)
        self.assertTrue(steps)
        for place, step in enumerate(steps):
            self.assertIs(type(step), tuple)
            self.assertEqual(len(step), 2)
            saying, reasons = step
            for told in (saying, reasons):
                self.assertIs(type(told), tuple)
                for number in told:
                    self.assertIs(type(number), int)
            if len(reasons) == 1:
                self.assertIn(reasons[0], range(len(sayings)))
                self.assertEqual(saying, sayings[reasons[0]])
            else:
                self.walk_pair(steps, place)
        return steps[-1][0]

    def walk_pair(self, steps, place):
        saying, reasons = steps[place]
        self.assertEqual(len(reasons), 2)
        self.assertIn(reasons[0], range(place))
        self.assertIn(reasons[1], range(place))
        one, other = steps[reasons[0]][0], steps[reasons[1]][0]
        both_ways = [part for part in one if -part in other]
        self.assertEqual(len(both_ways), 1)
        self.assertGreater(both_ways[0], 0)
        left = (set(one) | set(other)) - {both_ways[0], -both_ways[0]}
        self.assertEqual(saying, tuple(sorted(left, key=abs)))

    def hold_case(self, sayings, many, case):
        self.assertIs(type(case), list)
        self.assertEqual(len(case), many)
        for value in case:
            self.assertIs(type(value), int)
            self.assertIn(value, (0, 1))
        for saying in sayings:
            self.assertTrue(true_by_hand(saying, case), (sayings, case))

    def hold_case_or_clash(self, sayings, many):
        told = case_or_clash(sayings, many)
        self.assertIs(type(told), tuple)
        self.assertEqual(len(told), 2)
        if told[0] == "case":
            self.hold_case(sayings, many, told[1])
        else:
            self.assertEqual(told[0], "clash")
            self.assertEqual(self.walk(sayings, told[1]), ())
        return told[0]

    def hold_follows(self, sayings, many, saying):
        told = follows(sayings, many, saying)
        self.assertIs(type(told), tuple)
        self.assertEqual(len(told), 2)
        if told[0] == "case":
            self.hold_case(sayings, many, told[1])
            self.assertFalse(true_by_hand(saying, told[1]), (sayings, saying, told))
        else:
            self.assertEqual(told[0], "steps")
            self.assertLessEqual(set(self.walk(sayings, told[1])), set(saying), (sayings, saying, told))
        return told[0]


class TheWalkItself(Walked):
    def test_good_steps(self):
        sayings = [(1, 2), (-1, 3), (-2,)]
        steps = [((1, 2), (0,)), ((-1, 3), (1,)), ((2, 3), (0, 1)), ((-2,), (2,)), ((3,), (2, 3))]
        self.assertEqual(self.walk(sayings, steps), (3,))

    def test_bad_steps(self):
        sayings = [(1, 2), (-1, 3), (-2,), (-1, -2)]
        stand = [((1, 2), (0,)), ((-1, 3), (1,)), ((-1, -2), (3,))]
        for step in [
            ((1, 2), (1,)), ((1,), (0,)), ((1, 2), (4,)), ((1, 2), (-4,)), ((2, 3), (1, 0)), ((2,), (0, 1)),
            ((3, 2), (0, 1)), ((2, 3), (0, 3)), ((1, 2, 3), (0, 1)), ((), (0, 2)), ((-2, 2), (0, 2)), ((1, 2), (0, 0)),
            ((2, 3), (0, 1, 1)), ((2, 3), ()), ([2, 3], (0, 1)), ((2, 3), [0, 1]), ((1, 2), (False,)), ((2, 3),),
        ]:
            with self.subTest(step=step):
                with self.assertRaises(AssertionError):
                    self.walk(sayings, stand + [step])


class CaseOrClash(Walked):
    def test_one_case_alone_fits(self):
        self.assertEqual(case_or_clash([(1,), (-2,), (3,)], 3), ("case", [1, 0, 1]))
        self.assertEqual(case_or_clash([(1, 2), (-1, 2), (1, -2)], 2), ("case", [1, 1]))
        self.assertEqual(case_or_clash([(-1, -2), (-1, 2), (1, -2)], 2), ("case", [0, 0]))

    def test_clash_of_two(self):
        told, steps = case_or_clash([(2,), (-2,)], 2)
        self.assertEqual(told, "clash")
        self.assertEqual(sorted(steps[:2]), [((-2,), (1,)), ((2,), (0,))])
        self.assertEqual(steps[2][0], ())
        self.assertEqual([steps[place][0] for place in steps[2][1]], [(2,), (-2,)])

    def test_the_saying_without_parts(self):
        for sayings in [[()], [(1,), ()], [(), (1,)], [(), ()], [(1,), (-1,), ()], [(1, 2), (), (-1,), ()]]:
            with self.subTest(sayings=sayings):
                self.assertEqual(self.hold_case_or_clash(sayings, 2), "clash")

    def test_no_sayings_at_all(self):
        for many in range(1, 17):
            self.assertEqual(self.hold_case_or_clash([], many), "case")

    def test_a_case_just_where_some_case_fits(self):
        for sayings, many in samples():
            expected = "case" if fitting_by_hand(sayings, many) else "clash"
            self.assertEqual(self.hold_case_or_clash(sayings, many), expected, sayings)

    def test_every_set_of_sayings_of_two_things(self):
        for length in range(10):
            for sayings in itertools.combinations(all_sayings_of(2), length):
                expected = "case" if fitting_by_hand(sayings, 2) else "clash"
                self.assertEqual(self.hold_case_or_clash(list(sayings), 2), expected, sayings)

    def test_many_sayings_of_few_things(self):
        seen = {"case": 0, "clash": 0}
        for many in (3, 4, 5, 6):
            for sayings in drawn_lists(many, 300, many, 24):
                expected = "case" if fitting_by_hand(sayings, many) else "clash"
                self.assertEqual(self.hold_case_or_clash(sayings, many), expected, sayings)
                seen[expected] += 1
        self.assertGreater(min(seen.values()), 200)

    def test_many_sayings_of_sixteen_things(self):
        for sayings in drawn_lists(16, 15, 16, 24, most=2):
            expected = "case" if fitting_by_hand(sayings, 16) else "clash"
            self.assertEqual(self.hold_case_or_clash(sayings, 16), expected, sayings)

    def test_long_ways_to_a_clash(self):
        chain = [(1,)] + [(-thing, thing + 1) for thing in range(1, 16)] + [(-16,)]
        self.assertEqual(self.hold_case_or_clash(chain, 16), "clash")
        self.assertEqual(self.hold_case_or_clash(chain[1:], 16), "case")
        self.assertEqual(self.hold_case_or_clash(pigeons(), 12), "clash")
        self.assertEqual(self.hold_case_or_clash(pigeons()[1:], 12), "case")
        four = [tuple(way * thing for way, thing in zip(ways, (1, 6, 11, 16)))
                for ways in itertools.product((1, -1), repeat=4)]
        self.assertEqual(self.hold_case_or_clash(four, 16), "clash")
        self.assertEqual(self.hold_case_or_clash(four[:7] + four[8:], 16), "case")

    def test_the_same_saying_at_several_places(self):
        self.assertEqual(self.hold_case_or_clash([(1, 2)] * 24, 2), "case")
        self.assertEqual(self.hold_case_or_clash([(1, 2), (-1, 2), (1, -2), (-1, -2)] * 6, 2), "clash")

    def test_no_sayings(self):
        for place, (sayings, many) in enumerate(refused()):
            with self.subTest(place=place):
                with self.assertRaises(NoSayings):
                    case_or_clash(sayings, many)

    def test_what_is_handed_in_stays_as_it_was(self):
        for sayings in ([(2, 3), (1,), (-1, -3)], [(1,), (-1,)], [(1, 2), ()], []):
            before = copy.deepcopy(sayings)
            case_or_clash(sayings, 3)
            self.assertEqual(sayings, before)

    def test_new_lists_and_equal_answers(self):
        for sayings in ([(2, 3), (1,), (-1, -3)], [(1,), (-1,)], [()], []):
            told = case_or_clash(sayings, 3)
            again = case_or_clash(copy.deepcopy(sayings), 3)
            self.assertEqual(told, again)
            self.assertIsNot(told[1], again[1])
            told[1].clear()
            self.assertEqual(case_or_clash(sayings, 3), again)


class Follows(Walked):
    def test_by_hand(self):
        sayings = [(1, 2), (-1, 3), (-2,)]
        for saying in [(1,), (3,), (-2,), (1, 3), (1, 2, 3), (2, 3), (-1, 3)]:
            self.assertEqual(self.hold_follows(sayings, 3, saying), "steps", saying)
        for saying in [(), (-1,), (2,), (-3,), (-1, 2), (-1, 2, -3)]:
            self.assertEqual(self.hold_follows(sayings, 3, saying), "case", saying)

    def test_the_one_case_against_it(self):
        self.assertEqual(follows([(1, 2)], 2, (1,)), ("case", [0, 1]))
        self.assertEqual(follows([(1, -2)], 2, (-2,)), ("case", [1, 1]))
        self.assertEqual(follows([(2,)], 2, (-1, -2)), ("case", [1, 1]))

    def test_a_saying_that_stands_there(self):
        self.assertEqual(follows([(-3,), (1, 2)], 3, (1, 2)), ("steps", [((1, 2), (1,))]))
        self.assertEqual(follows([(1, 2)], 3, (1, 2, -3)), ("steps", [((1, 2), (0,))]))

    def test_the_saying_without_parts_follows_just_from_what_clashes(self):
        for sayings, many in samples():
            expected = "case" if fitting_by_hand(sayings, many) else "steps"
            self.assertEqual(self.hold_follows(sayings, many, ()), expected, sayings)

    def test_everything_follows_from_what_clashes(self):
        for sayings in ([()], [(3,), ()], [(3,), (-3,)], [(1, 2), (1, -2), (-1, 2), (-1, -2)], [(1,), (-1, 2), (-2,)]):
            for saying in all_sayings_of(3):
                self.assertEqual(self.hold_follows(sayings, 3, saying), "steps", (sayings, saying))

    def test_nothing_follows_from_no_sayings(self):
        for saying in all_sayings_of(3):
            self.assertEqual(self.hold_follows([], 3, saying), "case")
        self.assertEqual(self.hold_follows([], 16, tuple(range(1, 17))), "case")

    def test_just_what_is_true_in_each_case_that_fits(self):
        for sayings, many in samples():
            if many > 3:
                continue
            fitting = fitting_by_hand(sayings, many)
            for saying in all_sayings_of(many):
                expected = "steps" if all(true_by_hand(saying, case) for case in fitting) else "case"
                self.assertEqual(self.hold_follows(sayings, many, saying), expected, (sayings, saying))

    def test_many_sayings_of_few_things(self):
        draw = random.Random(5)
        seen = {"case": 0, "steps": 0}
        for many in (4, 5, 6):
            for sayings in drawn_lists(many + 10, 150, many, 16):
                fitting = fitting_by_hand(sayings, many)
                for _ in range(4):
                    saying = drawn_saying(draw, many, 0, many)
                    expected = "steps" if all(true_by_hand(saying, case) for case in fitting) else "case"
                    self.assertEqual(self.hold_follows(sayings, many, saying), expected, (sayings, saying))
                    seen[expected] += 1
        self.assertGreater(min(seen.values()), 300)

    def test_long_ways(self):
        chain = [(-thing, thing + 1) for thing in range(1, 16)]
        self.assertEqual(self.hold_follows(chain, 16, (-1, 16)), "steps")
        self.assertEqual(self.hold_follows(chain, 16, (1, -16)), "case")
        # The first bird has no hole left once the others have theirs.
        for thing in (1, 2, 3):
            self.assertEqual(self.hold_follows(pigeons()[1:], 12, (-thing,)), "steps")
            self.assertEqual(self.hold_follows(pigeons()[1:], 12, (thing,)), "case")

    def test_no_sayings(self):
        for place, (sayings, many) in enumerate(refused()):
            with self.subTest(place=place):
                with self.assertRaises(NoSayings):
                    follows(sayings, many, (1,))

    def test_no_sayings_comes_ahead_of_no_saying(self):
        for place, (sayings, many) in enumerate(refused()):
            for saying in (None, [1], (2, 1), Unwilling()):
                with self.subTest(place=place):
                    with self.assertRaises(NoSayings):
                        follows(sayings, many, saying)

    def test_no_saying(self):
        for saying in [
            [], [1], (2, 1), (1, 1), (1, -1), (0,), (4,), (-4,), (1, 4), (True,), (1, True), ("1",), (1.0,), (None,),
            ((1,),), "", "1", None, 1, True, {}, (HUGE,), (1, Unwilling()),
        ]:
            for sayings in ([(1, 2)], [], [()], [(1,), (-1,)]):
                with self.assertRaises(NoSaying):
                    follows(sayings, 3, saying)
        for name, thing in oddities().items():
            with self.subTest(name=name):
                with self.assertRaises(NoSaying):
                    follows([(1,)], 3, thing)

    def test_how_many_things_there_are_is_heeded(self):
        for many in range(1, 16):
            self.assertEqual(self.hold_follows([(many,)], many, (many,)), "steps")
            with self.assertRaises(NoSaying):
                follows([(many,)], many, (many + 1,))

    def test_what_is_handed_in_stays_as_it_was(self):
        for sayings in ([(2, 3), (1,), (-1, -3)], [(1,), (-1,)], [(1, 2), ()], []):
            before = copy.deepcopy(sayings)
            for saying in all_sayings_of(3):
                follows(sayings, 3, saying)
            self.assertEqual(sayings, before)

    def test_new_lists_and_equal_answers(self):
        for saying in ((1,), (2,), (1, 3), ()):
            told = follows([(1, 2), (1, -2)], 3, saying)
            again = follows([(1, 2), (1, -2)], 3, tuple(list(saying)))
            self.assertEqual(told, again)
            self.assertIsNot(told[1], again[1])
            told[1].clear()
            self.assertEqual(follows([(1, 2), (1, -2)], 3, saying), again)


if __name__ == "__main__":
    unittest.main()
