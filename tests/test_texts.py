import copy
import itertools
import unittest

from helper import HUGE, Unwilling, all_sayings_of, drawn_lists, oddities, samples
from sayhall.errors import NoText
from sayhall.sharpest import sharpest
from sayhall.texts import read, shown


def all_texts(signs, longest):
    for length in range(longest + 1):
        for row in itertools.product(signs, repeat=length):
            yield "".join(row)


class Shown(unittest.TestCase):
    def test_the_very_text(self):
        self.assertEqual(shown([(1,)]), "1\n")
        self.assertEqual(shown([(-1,)]), "-1\n")
        self.assertEqual(shown([(1, -2, 3)]), "1 -2 3\n")
        self.assertEqual(shown([(1, 2), (-1, 3), (-2,)]), "1 2\n-1 3\n-2\n")
        self.assertEqual(shown([(2,), (1,), (2,)]), "2\n1\n2\n")
        self.assertEqual(shown([(-9, 10, -16)]), "-9 10 -16\n")

    def test_the_saying_without_parts(self):
        self.assertEqual(shown([()]), "-\n")
        self.assertEqual(shown([(), (1,), ()]), "-\n1\n-\n")

    def test_sayings_of_none(self):
        self.assertEqual(shown([]), "")

    def test_all_sixteen_things(self):
        self.assertEqual(shown([tuple(range(1, 17))]), "1 2 3 4 5 6 7 8 9 10 11 12 13 14 15 16\n")

    def test_more_than_are_read_are_still_shown(self):
        told = sharpest([tuple(range(1, 9))] + [(-thing, thing + 8) for thing in range(1, 9)], 16)
        self.assertGreater(len(told), 24)
        self.assertEqual(shown(told).count("\n"), len(told))

    def test_what_is_handed_in_stays_as_it_was(self):
        for sayings in ([(1, -2), (), (3,)], []):
            before = copy.deepcopy(sayings)
            shown(sayings)
            self.assertEqual(sayings, before)


class Read(unittest.TestCase):
    def test_the_very_sayings(self):
        self.assertEqual(read("1 -2 3\n", 3), [(1, -2, 3)])
        self.assertEqual(read("1 2\n-1 3\n-2\n", 3), [(1, 2), (-1, 3), (-2,)])
        self.assertEqual(read("2\n1\n2\n", 2), [(2,), (1,), (2,)])
        self.assertEqual(read("-9 10 -16\n", 16), [(-9, 10, -16)])
        self.assertEqual(read("-\n", 1), [()])
        self.assertEqual(read("-\n1\n-\n", 1), [(), (1,), ()])
        self.assertEqual(read("", 1), [])
        told = read("1 2\n", 2)
        self.assertEqual([type(told), type(told[0]), type(told[0][0])], [list, tuple, int])

    def test_what_is_shown_is_read_back(self):
        for sayings, many in samples():
            self.assertEqual(read(shown(sayings), many), sayings)
        for many in (1, 2, 9, 10, 16):
            for sayings in drawn_lists(many + 80, 40, many, 24, least=0, most=many):
                self.assertEqual(read(shown(sayings), many), sayings)

    def test_for_one_and_for_sixteen_things(self):
        for sayings in itertools.product([(), (1,), (-1,)], repeat=3):
            self.assertEqual(read(shown(list(sayings)), 1), list(sayings))
        for way in (1, -1):
            sayings = [tuple(way * thing for thing in range(1, 17))] + [(way * thing,) for thing in range(1, 17)]
            self.assertEqual(read(shown(sayings), 16), sayings)

    def test_read_just_if_some_sayings_are_shown_so(self):
        good = {}
        for length in range(4):
            for sayings in itertools.product(all_sayings_of(2), repeat=length):
                good[shown(list(sayings))] = list(sayings)
        taken = 0
        for text in all_texts("012- \n", 6):
            if text in good:
                self.assertEqual(read(text, 2), good[text])
                taken += 1
            else:
                with self.assertRaises(NoText, msg=repr(text)):
                    read(text, 2)
        self.assertEqual(taken, sum(len(text) <= 6 for text in good))
        self.assertGreater(taken, 60)

    def test_line_ends(self):
        for text in [
            "1", "-", "1 2", "1\n2", "\n", "\n\n", "1\n\n", "\n1\n", "1\n\n2\n", "-\n\n", "1\r\n", "1\r", "\r\n",
            "1\r2\n", "1\n\r", "1\v", "1\f", "1\v2\n", "1\f2\n", "1\x1c2\n", "1\x1d2\n", "1\x1e2\n", "1\x852\n",
            "1\u20282\n", "1\u20292\n", "1\u2028", "1\\n", "1;2\n", "1,2\n",
        ]:
            with self.subTest(text=text):
                with self.assertRaises(NoText):
                    read(text, 3)

    def test_blanks(self):
        for text in [
            " ", " \n", " 1\n", "1 \n", "1  2\n", "1   2\n", "1\t2\n", "\t1\n", "1\t\n", "- \n", " -\n", "- 1\n",
            "1 -\n", "1 - 2\n", "- -\n", "1 -  2\n", "1\xa02\n", "1\u20032\n", "1\u30002\n", "1\n 2\n", "1\n2 \n",
            "1\n ", "1\n2\n ", "1\x002\n", "\ufeff1\n",
        ]:
            with self.subTest(text=text):
                with self.assertRaises(NoText):
                    read(text, 3)

    def test_words(self):
        for text in [
            "0\n", "00\n", "01\n", "-0\n", "-01\n", "--1\n", "---\n", "--\n", "+1\n", "+-1\n", "-+1\n", "1_0\n", "1_\n",
            "_1\n", "1.0\n", "1e0\n", "0x1\n", "a\n", "one\n", "()\n", "(1,)\n", "1,\n", "- 1\n", "1-2\n", "1 0\n",
            "0 1\n", "1 02\n", "True\n", "None\n", "\u0661\n", "-\u0661\n", "\uff11\n", "\u00b9\n", "\u2460\n",
            "\u22121\n", "\u20131\n", "\u2212\n", "1 \u0662\n", "\u0967\n", "1L\n", "#\n", "1 #\n", "1\n#\n",
        ]:
            for many in (3, 16):
                with self.subTest(text=text):
                    with self.assertRaises(NoText):
                        read(text, many)

    def test_a_thing_too_great(self):
        for many in range(1, 17):
            self.assertEqual(read(f"{many}\n-{many}\n", many), [(many,), (-many,)])
            for text in (f"{many + 1}\n", f"-{many + 1}\n", f"{many} {many + 1}\n", f"{many}\n-{many + 1}\n"):
                with self.assertRaises(NoText):
                    read(text, many)
        with self.assertRaises(NoText):
            read("9" * 6000 + "\n", 16)

    def test_things_that_fall_or_stand_twice_or_in_two_ways(self):
        for text in [
            "2 1\n", "-2 1\n", "1 3 2\n", "10 9\n", "1\n2 1\n", "1 1\n", "-1 -1\n", "1 -1\n", "-1 1\n", "1 2 -2\n",
        ]:
            with self.subTest(text=text):
                with self.assertRaises(NoText):
                    read(text, 16)

    def test_twenty_four_lines_and_one_more(self):
        self.assertEqual(read("1\n" * 24, 1), [(1,)] * 24)
        self.assertEqual(read("-\n" * 24, 1), [()] * 24)
        for text in ("1\n" * 25, "-\n" * 25, "1\n" * 24 + "1", "1\n" * 24 + "\n", "1\n" * 5000):
            with self.assertRaises(NoText):
                read(text, 1)

    def test_what_is_no_text(self):
        for thing in [None, 1, 0, True, False, b"1\n", b"", ["1\n"], ["1"], ("1\n",), [], (), [(1,)], {}, HUGE]:
            with self.assertRaises(NoText):
                read(thing, 3)
        for name, thing in oddities().items():
            with self.subTest(name=name):
                with self.assertRaises(NoText):
                    read(thing, 3)

    def test_there_are_no_sayings_of_fewer_things_than_one_or_more_than_sixteen(self):
        for many in [0, -1, 17, HUGE, True, False, None, "3", 3.0, [3], Unwilling()]:
            for text in ("", "1\n", "-\n", None):
                with self.assertRaises(NoText):
                    read(text, many)

    def test_new_lists_each_time(self):
        for text in ("1 2\n-\n", "", "-1\n"):
            told, again = read(text, 2), read(text, 2)
            self.assertEqual(told, again)
            self.assertIsNot(told, again)
            told.append((1,))
            self.assertEqual(read(text, 2), again)


if __name__ == "__main__":
    unittest.main()
