import copy
import itertools
import random
import unittest

from helper import HUGE, Unwilling, all_cases, oddities, true_by_hand
from sayhall.errors import NoCase, NoSentence
from sayhall.sayings import is_saying
from sayhall.sentences import is_true, sayings_of


def thing(number):
    return ("thing", number)


def nots(times, sentence):
    for _ in range(times):
        sentence = ("not", sentence)
    return sentence


ONE, TWO, THREE = thing(1), thing(2), thing(3)
WRONG_MANY = [0, 6, 7, 16, 17, -1, HUGE, -HUGE, True, False, "3", "", None, 3.0, [3], (3,), Unwilling()]


def as_python(sentence):
    """The sentence in Python's own words, to be reckoned by Python itself."""
    if sentence[0] == "thing":
        return f"bool(case[{sentence[1]} - 1])"
    parts = [as_python(part) for part in sentence[1:]]
    return f"(not {parts[0]})" if sentence[0] == "not" else f"({parts[0]} {sentence[0]} {parts[1]})"


def true_in(sentence, case):
    return eval(as_python(sentence), {"bool": bool, "case": case})


def by_ends(sentence):
    """The tuples that are no things, parts ahead of what they are parts of, the first ahead of the second."""
    if sentence[0] == "thing":
        return []
    return [one for part in sentence[1:] for one in by_ends(part)] + [sentence]


def size(sentence):
    return 1 if sentence[0] == "thing" else 1 + sum(size(part) for part in sentence[1:])


def sentences_of(tuples, many):
    """Every sentence of just so many tuples."""
    if tuples == 1:
        return [thing(number) for number in range(1, many + 1)]
    found = [("not", part) for part in sentences_of(tuples - 1, many)]
    for first in range(1, tuples - 1):
        for pair in itertools.product(sentences_of(first, many), sentences_of(tuples - 1 - first, many)):
            found += [("and",) + pair, ("or",) + pair]
    return found


def drawn_sentence(draw, tuples, many):
    if tuples == 1:
        return thing(draw.randint(1, many))
    if tuples == 2 or draw.random() < 0.3:
        return ("not", drawn_sentence(draw, tuples - 1, many))
    first = draw.randint(1, tuples - 2)
    return (
        draw.choice(("and", "or")), drawn_sentence(draw, first, many), drawn_sentence(draw, tuples - 1 - first, many),
    )


def drawn_sentences(seed, times):
    draw = random.Random(seed)
    for _ in range(times):
        many = draw.randint(1, 5)
        yield drawn_sentence(draw, draw.randint(1, 12), many), many


def longest_sentences():
    """Of twelve tuples each."""
    left, right = ONE, ONE
    for place in range(5):
        left = (("and", "or")[place % 2], left, thing(place % 5 + 1))
        right = (("and", "or")[place % 2], thing(place % 5 + 1), right)
    half = ("or", ("and", ONE, TWO), ("not", THREE))
    return [nots(11, ONE), ("not", left), ("not", right), ("and", half, ("not", ("not", ("or", ONE, thing(5)))))]


def no_sentences():
    """What is no sentence of three things."""
    wrong = [
        (), [], ["thing", 1], "thing", "", 1, 0, True, None, {}, {"thing": 1}, ("thing",), ("thing", 1, 1), ("not",),
        ("not", ONE, ONE), ("and",), ("and", ONE), ("and", ONE, ONE, ONE), ("or",), ("or", ONE), ("or", ONE, ONE, ONE),
        ("nor", ONE, ONE), ("xor", ONE, ONE), ("Thing", 1), ("things", 1), ("NOT", ONE), ("", 1), ("", ONE),
        (1,), (1, 2), (None, 1), (True, ONE), (("thing",), 1), (("not",), ONE), (["not"], ONE), (b"thing", 1),
        ("thing", 0), ("thing", 4), ("thing", -1), ("thing", -3), ("thing", True), ("thing", False), ("thing", "1"),
        ("thing", ""), ("thing", None), ("thing", 1.0), ("thing", (1,)), ("thing", [1]), ("thing", ONE),
        ("thing", HUGE), ("thing", -HUGE),
        ("not", 1), ("not", True), ("not", None), ("not", "thing"), ("not", []), ("not", ["thing", 1]), ("not", ()),
        ("not", thing(0)), ("not", thing(4)), ("not", thing(True)), ("not", ("not", ("not", ("thing", "1")))),
        ("and", ONE, 2), ("and", 1, TWO), ("and", ONE, None), ("and", ONE, thing(4)), ("and", thing(0), ONE),
        ("or", ONE, [1]), ("or", ("thing",), ONE), ("or", ONE, ("nothing", 1)), ("or", ("and", ONE, TWO), ("or", TWO)),
        ("thing", Unwilling()), ("not", Unwilling()), (Unwilling(), ONE), ("and", ONE, Unwilling()), (HUGE, ONE),
        (ONE,), (ONE, TWO), [ONE], ("not", "not", ONE), ("thing 1",), ("thing1", 1),
    ]
    wrong += [nots(12, ONE), nots(13, ONE), ("and", nots(5, ONE), nots(5, ONE)), ("or", nots(10, ONE), ONE)]
    return wrong


def deep_things():
    """Nested far deeper than calls can go."""
    bare, binary, doubled, rows = (), ONE, ONE, []
    for _ in range(100000):
        bare, binary, rows = (bare,), ("and", ONE, binary), [rows]
    for _ in range(60):
        doubled = ("or", doubled, doubled)
    other = ONE
    for _ in range(100000):
        other = ("or", other, ONE)
    return [nots(100000, ONE), nots(100000, None), bare, binary, other, doubled, rows, ("not", bare), ("not", rows)]


class IsTrue(unittest.TestCase):
    def test_by_hand(self):
        for first, second in itertools.product((0, 1), repeat=2):
            case = [first, second]
            self.assertIs(is_true(ONE, 2, case), first == 1)
            self.assertIs(is_true(TWO, 2, case), second == 1)
            self.assertIs(is_true(("not", ONE), 2, case), first == 0)
            self.assertIs(is_true(("and", ONE, TWO), 2, case), first + second == 2)
            self.assertIs(is_true(("or", ONE, TWO), 2, case), first + second >= 1)
            self.assertIs(is_true(("and", ONE, ("not", TWO)), 2, case), case == [1, 0])
            self.assertIs(is_true(("or", ("not", ONE), TWO), 2, case), case != [1, 0])
            self.assertIs(is_true(("not", ("or", ONE, TWO)), 2, case), case == [0, 0])
            self.assertIs(is_true(("or", ONE, ("not", ONE)), 2, case), True)
            self.assertIs(is_true(("and", ONE, ("not", ONE)), 2, case), False)

    def test_every_short_sentence_in_all_cases(self):
        for tuples in range(1, 6):
            for sentence in sentences_of(tuples, 2):
                for case in all_cases(2):
                    self.assertIs(is_true(sentence, 2, case), true_in(sentence, case), (sentence, case))

    def test_many_sentences_in_all_cases(self):
        seen = {True: 0, False: 0}
        for sentence, many in drawn_sentences(31, 200):
            for case in all_cases(many):
                told = is_true(sentence, many, case)
                self.assertIs(told, true_in(sentence, case), (sentence, case))
                seen[told] += 1
        self.assertGreater(min(seen.values()), 500)

    def test_twelve_tuples_are_still_a_sentence(self):
        for sentence in longest_sentences():
            self.assertEqual(size(sentence), 12)
            for case in all_cases(5):
                self.assertIs(is_true(sentence, 5, case), true_in(sentence, case))

    def test_how_many_things_there_are_is_heeded(self):
        for many in range(1, 6):
            case = [0] * (many - 1) + [1]
            self.assertIs(is_true(thing(many), many, case), True)
            for sentence in (thing(many + 1), thing(-many), ("not", thing(many + 1)), ("or", ONE, thing(many + 1))):
                with self.assertRaises(NoSentence):
                    is_true(sentence, many, case)

    def test_no_sentence(self):
        for place, sentence in enumerate(no_sentences()):
            with self.subTest(place=place):
                with self.assertRaises(NoSentence):
                    is_true(sentence, 3, [0, 1, 1])

    def test_no_sentence_of_anything_whatever(self):
        for name, odd in oddities().items():
            for sentence in (odd, ("thing", odd), ("not", odd), (odd, ONE), ("and", odd, ONE), ("or", ONE, odd)):
                with self.subTest(name=name):
                    with self.assertRaises(NoSentence):
                        is_true(sentence, 3, [0, 1, 1])

    def test_no_sentence_nested_very_deep(self):
        for place, sentence in enumerate(deep_things()):
            with self.subTest(place=place):
                with self.assertRaises(NoSentence):
                    is_true(sentence, 3, [0, 1, 1])

    def test_no_sentence_for_another_number_of_things(self):
        for many in WRONG_MANY:
            for case in ([0], [0] * 3, [0] * 6, None):
                with self.assertRaises(NoSentence):
                    is_true(ONE, many, case)

    def test_no_sentence_comes_ahead_of_no_case(self):
        for case in (None, [], [0], [0, 0, 2], (0, 0, 0), [True, 0, 0], Unwilling()):
            for place, sentence in enumerate(no_sentences()):
                with self.subTest(place=place):
                    with self.assertRaises(NoSentence):
                        is_true(sentence, 3, case)

    def test_no_case(self):
        for case in [
            [], [0], [0, 0], [0] * 4, [0, 2, 0], [0, -1, 0], [0, True, 0], [False] * 3, (0, 0, 0), "000",
            ["0"] * 3, None, 0, [0, 0, 1.0], {0: 0, 1: 0, 2: 0}, [0, 0, HUGE], [0, 0, Unwilling()], Unwilling(),
        ]:
            for sentence in (ONE, ("not", ONE), ("or", ONE, THREE), ("and", ONE, TWO)):
                with self.assertRaises(NoCase):
                    is_true(sentence, 3, case)
        for name, odd in oddities().items():
            with self.subTest(name=name):
                with self.assertRaises(NoCase):
                    is_true(ONE, 1, odd)
                with self.assertRaises(NoCase):
                    is_true(ONE, 1, [odd])

    def test_what_is_handed_in_stays_as_it_was(self):
        case, sentence = [1, 0], ("or", ("not", ONE), TWO)
        before = copy.deepcopy((case, sentence))
        for _ in range(2):
            self.assertIs(is_true(sentence, 2, case), False)
            self.assertEqual((case, sentence), before)


class SayingsOf(unittest.TestCase):
    def hold(self, sentence, many):
        told = sayings_of(sentence, many)
        self.assertIs(type(told), tuple)
        self.assertEqual(len(told), 2)
        sayings, number = told
        more = by_ends(sentence)
        self.assertIs(type(number), int)
        self.assertEqual(number, many + len(more))
        self.assertIs(type(sayings), list)
        self.assertLessEqual(len(sayings), 24)
        self.assertTrue(all(is_saying(saying, number) for saying in sayings), sayings)
        for case in all_cases(many):
            right = [case + [int(true_in(one, case)) for one in more]] if true_in(sentence, case) else []
            fitting = [
                case + rest for rest in all_cases(len(more))
                if all(true_by_hand(saying, case + rest) for saying in sayings)
            ]
            self.assertEqual(fitting, right, (sentence, case))

    def test_a_thing_alone(self):
        for many in range(1, 6):
            for number in range(1, many + 1):
                self.hold(thing(number), many)
                self.assertEqual(sayings_of(thing(number), many)[1], many)

    def test_each_kind_of_tuple(self):
        for sentence in [
            ("not", ONE), ("and", ONE, TWO), ("or", ONE, TWO), ("and", TWO, ONE), ("or", TWO, ONE),
            ("and", ONE, ONE), ("or", TWO, TWO), ("not", ("not", ONE)), ("and", ("not", ONE), ONE),
            ("or", ONE, ("not", ONE)), ("and", ("not", TWO), ("not", ONE)), ("or", ("and", ONE, TWO), ("or", TWO, ONE)),
        ]:
            with self.subTest(sentence=sentence):
                self.hold(sentence, 2)
                self.hold(sentence, 5)

    def test_the_same_tuple_twice_counts_twice(self):
        no = ("not", ONE)
        self.assertEqual(sayings_of(("and", no, no), 1)[1], 4)
        self.hold(("and", no, no), 1)
        self.hold(("or", ("or", no, no), ("not", no)), 1)

    def test_the_order_of_the_ends(self):
        # 3: not 1; 4: 3 and 2; 5: not 2; 6: 4 or 5.
        sentence = ("or", ("and", ("not", ONE), TWO), ("not", TWO))
        sayings, number = sayings_of(sentence, 2)
        self.assertEqual(number, 6)
        fitting = [case for case in all_cases(6) if all(true_by_hand(saying, case) for saying in sayings)]
        self.assertEqual(fitting, [[0, 0, 1, 0, 1, 1], [0, 1, 1, 1, 0, 1], [1, 0, 0, 0, 1, 1]])

    def test_every_short_sentence(self):
        for tuples in range(1, 6):
            for sentence in sentences_of(tuples, 2):
                self.hold(sentence, 2)

    def test_many_sentences(self):
        draw = random.Random(33)
        for _ in range(80):
            many = draw.randint(1, 4)
            self.hold(drawn_sentence(draw, draw.randint(3, 9), many), many)

    def test_twelve_tuples(self):
        for sentence in longest_sentences():
            self.assertEqual(size(sentence), 12)
            self.hold(sentence, 5)
        self.hold(nots(11, ONE), 1)
        self.assertEqual(sayings_of(nots(11, thing(5)), 5)[1], 16)

    def test_no_sentence(self):
        for place, sentence in enumerate(no_sentences()):
            with self.subTest(place=place):
                with self.assertRaises(NoSentence):
                    sayings_of(sentence, 3)

    def test_no_sentence_of_anything_whatever(self):
        for name, odd in oddities().items():
            for sentence in (odd, ("thing", odd), ("not", odd), (odd, ONE), ("and", odd, ONE), ("or", ONE, odd)):
                with self.subTest(name=name):
                    with self.assertRaises(NoSentence):
                        sayings_of(sentence, 3)

    def test_no_sentence_nested_very_deep(self):
        for place, sentence in enumerate(deep_things()):
            with self.subTest(place=place):
                with self.assertRaises(NoSentence):
                    sayings_of(sentence, 3)

    def test_no_sentence_for_another_number_of_things(self):
        for many in WRONG_MANY:
            for sentence in (ONE, ("not", ONE), None):
                with self.assertRaises(NoSentence):
                    sayings_of(sentence, many)

    def test_how_many_things_there_are_is_heeded(self):
        for many in range(1, 6):
            for sentence in (thing(many + 1), ("not", thing(many + 1)), ("and", ONE, thing(many + 1))):
                with self.assertRaises(NoSentence):
                    sayings_of(sentence, many)

    def test_what_is_told_is_new_and_equal_each_time(self):
        for sentence in (ONE, ("not", ONE), ("and", ("not", ONE), ("or", TWO, ONE))):
            before = copy.deepcopy(sentence)
            told, again = sayings_of(sentence, 2), sayings_of(sentence, 2)
            self.assertEqual(sentence, before)
            self.assertEqual(told, again)
            self.assertIsNot(told[0], again[0])
            told[0].clear()
            self.assertEqual(sayings_of(sentence, 2), again)


if __name__ == "__main__":
    unittest.main()
