"""What is promised over the whole program: refusals, what is handed in, what is told."""

import copy
import unittest

from helper import Unwilling, refused
from sayhall import errors
from sayhall.cases import cases, settled
from sayhall.clashes import case_or_clash, follows
from sayhall.least import between, forgotten, least_clash
from sayhall.plain import least_case
from sayhall.sayings import checked, fits, is_case, is_saying
from sayhall.sentences import is_true, sayings_of
from sayhall.sharpest import alike, sharpest
from sayhall.texts import read, shown
from sayhall.turns import played

FIT = [(1, 2), (-1, 3), (-2,)]
CLASH = [(1,), (-1, 2), (-2,)]
PLAIN = [(1,), (-1, 2), (-2, -3)]
SENTENCE = ("or", ("not", ("thing", 1)), ("and", ("thing", 2), ("thing", 3)))

# Each with things that it takes; the sayings and the number of things come first where both are handed in.
GOOD_CALLS = [
    (is_saying, [(1, -2), 3]), (is_case, [[0, 1, 1], 3]),
    (checked, [FIT, 3]), (checked, [[], 3]), (fits, [FIT, 3, [1, 0, 1]]),
    (cases, [FIT, 3]), (cases, [CLASH, 3]), (cases, [[], 3]), (settled, [FIT, 3]), (settled, [[], 3]),
    (case_or_clash, [FIT, 3]), (case_or_clash, [CLASH, 3]), (follows, [FIT, 3, (1,)]), (follows, [FIT, 3, (2,)]),
    (sharpest, [FIT, 3]), (sharpest, [CLASH, 3]), (sharpest, [[], 3]),
    (alike, [FIT, CLASH, 3]), (alike, [FIT, FIT, 3]),
    (least_clash, [CLASH, 3]), (between, [FIT, [(-1, -3)], 3]), (between, [FIT, FIT, 3]),
    (forgotten, [FIT, 3, 1]), (forgotten, [[], 3, 3]),
    (least_case, [PLAIN, 3]), (least_case, [CLASH, 3]), (least_case, [[], 3]),
    (played, [FIT, 3, ["some", "all", "some"]]), (played, [FIT, 3, ["some"] * 3]), (played, [[], 3, ["all"] * 3]),
    (is_true, [SENTENCE, 3, [1, 1, 0]]), (sayings_of, [SENTENCE, 3]), (sayings_of, [("thing", 2), 3]),
    (shown, [FIT]), (shown, [[()]]), (read, ["1 2\n-\n-3\n", 3]), (read, ["", 3]),
]

# Everything that takes sayings and how many things there are, with wrong things beside: NoSayings comes ahead of all.
TAKING_SAYINGS = [
    checked, cases, settled, case_or_clash, sharpest, least_clash, least_case,
    lambda sayings, many: fits(sayings, many, [0, 0, 0]), lambda sayings, many: fits(sayings, many, Unwilling()),
    lambda sayings, many: follows(sayings, many, (1,)), lambda sayings, many: follows(sayings, many, Unwilling()),
    lambda sayings, many: alike(sayings, [], many), lambda sayings, many: alike([], sayings, many),
    lambda sayings, many: between(sayings, [()], many), lambda sayings, many: between([()], sayings, many),
    lambda sayings, many: forgotten(sayings, many, 1), lambda sayings, many: forgotten(sayings, many, Unwilling()),
    lambda sayings, many: played(sayings, many, ["some"] * 3), lambda sayings, many: played(sayings, many, Unwilling()),
]

REFUSALS = [
    (errors.NoSayings, checked, [None, 3]), (errors.NoSaying, follows, [FIT, 3, (0,)]),
    (errors.NoCase, fits, [FIT, 3, [2, 0, 0]]), (errors.NoThing, forgotten, [FIT, 3, 4]),
    (errors.Clash, settled, [CLASH, 3]), (errors.Fits, least_clash, [FIT, 3]), (errors.NotPlain, least_case, [FIT, 3]),
    (errors.NoKinds, played, [FIT, 3, ["some"]]), (errors.NoSentence, sayings_of, [("thing", 4), 3]),
    (errors.NoText, read, ["4\n", 3]), (errors.NoSentence, is_true, [("thing", 4), 3, [0, 0, 0]]),
    (errors.NoCase, is_true, [("thing", 3), 3, [0, 0]]),
]


def lists_in(told):
    """Every list within what is told."""
    if not isinstance(told, (list, tuple)):
        return []
    found = [told] if isinstance(told, list) else []
    return found + [one for part in told for one in lists_in(part)]


class Whole(unittest.TestCase):
    def test_no_sayings_comes_ahead_of_all_else(self):
        for number, told in enumerate(TAKING_SAYINGS):
            for place, (sayings, many) in enumerate(refused()):
                with self.subTest(number=number, place=place):
                    with self.assertRaises(errors.NoSayings):
                        told(sayings, many)

    def test_each_refusal_is_a_say_error_and_a_value_error(self):
        for kind, told, handed in REFUSALS:
            with self.subTest(kind=kind.__name__):
                with self.assertRaises(ValueError) as taken:
                    told(*handed)
                self.assertIs(type(taken.exception), kind)
                self.assertIsInstance(taken.exception, errors.SayError)
                self.assertTrue(str(taken.exception))
        self.assertEqual(len({kind for kind, told, handed in REFUSALS}), 10)

    def test_what_is_handed_in_stays_as_it_was(self):
        for told, handed in GOOD_CALLS:
            with self.subTest(told=told.__name__, handed=handed):
                before = copy.deepcopy(handed)
                told(*handed)
                self.assertEqual(handed, before)
        for kind, told, handed in REFUSALS:
            before = copy.deepcopy(handed)
            with self.assertRaises(kind):
                told(*handed)
            self.assertEqual(handed, before)

    def test_equal_things_give_equal_answers(self):
        first = [told(*handed) for told, handed in GOOD_CALLS]
        again = [told(*copy.deepcopy(handed)) for told, handed in reversed(GOOD_CALLS)]
        self.assertEqual(first, again[::-1])

    def test_lists_that_are_told_are_new_each_time(self):
        for told, handed in GOOD_CALLS:
            with self.subTest(told=told.__name__, handed=handed):
                first, again = lists_in(told(*handed)), lists_in(told(*handed))
                right = copy.deepcopy(again)
                for one in first:
                    self.assertFalse(any(one is other for other in again + lists_in(handed)))
                for one in first:
                    one.append("more")
                self.assertEqual(lists_in(told(*handed)), right)

    def test_true_and_false_are_no_numbers(self):
        for told in TAKING_SAYINGS:
            for sayings, many in (([(True,)], 3), ([(True, 2)], 3), ([], True), ([(1,)], True), ([(1,)], False)):
                with self.assertRaises(errors.NoSayings):
                    told(sayings, many)
        self.assertIs(is_saying((True, 2), 3), False)
        self.assertIs(is_case([True, False], 2), False)
        for kind, told, handed in [
            (errors.NoCase, fits, [[], 1, [True]]), (errors.NoSaying, follows, [[], 1, (True,)]),
            (errors.NoThing, forgotten, [[], 1, True]), (errors.NoKinds, played, [[], 1, [True]]),
            (errors.NoSentence, is_true, [("thing", True), 1, [1]]),
            (errors.NoSentence, is_true, [("thing", 1), True, [1]]),
            (errors.NoCase, is_true, [("thing", 1), 1, [True]]), (errors.NoSentence, sayings_of, [("thing", True), 1]),
            (errors.NoSentence, sayings_of, [("thing", 1), True]),
        ]:
            with self.assertRaises(kind):
                told(*handed)

    def test_what_one_tells_the_others_take(self):
        sayings, many = sayings_of(SENTENCE, 3)
        self.assertEqual(read(shown(sayings), many), sayings)
        right = [case for case in cases([], 3) if is_true(SENTENCE, 3, case)]
        self.assertEqual([case[:3] for case in cases(sayings, many)], right)
        self.assertEqual(case_or_clash(checked(sayings, many), many)[0], "case")
        self.assertEqual(played(sayings, many, ["some"] * many)[0], "yes")


if __name__ == "__main__":
    unittest.main()
