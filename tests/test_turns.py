import copy
import itertools
import random
import unittest

from helper import HUGE, Unwilling, drawn_saying, oddities, refused, samples, true_by_hand
from sayhall.errors import NoKinds, NoSayings
from sayhall.turns import played


def all_kinds(many):
    return [list(kinds) for kinds in itertools.product(("some", "all"), repeat=many)]


def winner_by_hand(sayings, kinds, chosen=()):
    """By the document's words, every way tried."""
    if len(chosen) == len(kinds):
        return "yes" if all(true_by_hand(saying, chosen) for saying in sayings) else "no"
    told = [winner_by_hand(sayings, kinds, chosen + (choice,)) for choice in (0, 1)]
    chooser = "yes" if kinds[len(chosen)] == "some" else "no"
    return chooser if chooser in told else {"yes": "no", "no": "yes"}[chooser]


class Played(unittest.TestCase):
    def walked(self, plan, kinds, winner, chosen=()):
        """All cases that the plan comes to, with both ways wherever the other one chooses."""
        if len(chosen) == len(kinds):
            self.assertIsNone(plan)
            return [list(chosen)]
        self.assertIs(type(plan), tuple)
        self.assertEqual(len(plan), 2)
        if (kinds[len(chosen)] == "some") == (winner == "yes"):
            self.assertIs(type(plan[0]), int)
            self.assertIn(plan[0], (0, 1))
            return self.walked(plan[1], kinds, winner, chosen + (plan[0],))
        return [
            case for choice in (0, 1) for case in self.walked(plan[choice], kinds, winner, chosen + (choice,))
        ]

    def hold(self, sayings, many, kinds):
        told = played(sayings, many, kinds)
        self.assertIs(type(told), tuple)
        self.assertEqual(len(told), 2)
        winner, plan = told
        self.assertIn(winner, ("yes", "no"))
        cases = self.walked(plan, kinds, winner)
        for case in cases:
            fits = all(true_by_hand(saying, case) for saying in sayings)
            self.assertEqual(fits, winner == "yes", (sayings, kinds, case))
        own = sum((kind == "some") == (winner == "yes") for kind in kinds)
        self.assertEqual(len(cases), 2 ** (many - own))
        return winner

    def test_by_hand(self):
        self.assertEqual(played([(1,)], 1, ["some"]), ("yes", (1, None)))
        self.assertEqual(played([(-1,)], 1, ["some"]), ("yes", (0, None)))
        self.assertEqual(played([(1,)], 1, ["all"]), ("no", (0, None)))
        self.assertEqual(played([(-1,)], 1, ["all"]), ("no", (1, None)))
        # Equal to what the other one chose ahead: it can be answered, but not foreseen.
        equal = [(1, -2), (-1, 2)]
        self.assertEqual(played(equal, 2, ["all", "some"]), ("yes", ((0, None), (1, None))))
        self.assertEqual(played(equal, 2, ["some", "all"]), ("no", ((1, None), (0, None))))

    def test_the_order_of_the_things_is_the_order_of_the_choices(self):
        sayings = [(1, 2), (-1, -2)]
        self.assertEqual(played(sayings, 2, ["all", "some"]), ("yes", ((1, None), (0, None))))
        self.assertEqual(played(sayings, 2, ["some", "all"])[0], "no")

    def test_all_of_kind_some(self):
        self.assertEqual(self.hold([(1, 2), (-1,), (3,)], 3, ["some"] * 3), "yes")
        self.assertEqual(played([(1, 2), (-1,), (3,)], 3, ["some"] * 3), ("yes", (0, (1, (1, None)))))
        self.assertEqual(self.hold([(1,), (-1,)], 3, ["some"] * 3), "no")

    def test_all_of_kind_all(self):
        self.assertEqual(self.hold([(1, 2, 3)], 3, ["all"] * 3), "no")
        self.assertEqual(played([(1, -2, 3)], 3, ["all"] * 3), ("no", (0, (1, (0, None)))))
        self.assertEqual(self.hold([], 3, ["all"] * 3), "yes")

    def test_no_sayings_at_all(self):
        for many in (1, 2, 4):
            for kinds in all_kinds(many):
                self.assertEqual(self.hold([], many, kinds), "yes")

    def test_the_saying_without_parts(self):
        for sayings in ([()], [(), ()], [(1,), ()], [(), (-1, 2)], [(1, 2), (), (-1,)]):
            for kinds in all_kinds(3):
                self.assertEqual(self.hold(sayings, 3, kinds), "no")

    def test_every_few_sayings_with_all_kinds(self):
        seen = {"yes": 0, "no": 0}
        for sayings, many in samples():
            if many <= 3:
                for kinds in all_kinds(many):
                    winner = self.hold(sayings, many, kinds)
                    self.assertEqual(winner, winner_by_hand(sayings, kinds))
                    seen[winner] += 1
        self.assertGreater(min(seen.values()), 1000)

    def test_many_sayings_of_mixed_kinds(self):
        draw = random.Random(21)
        seen = {"yes": 0, "no": 0}
        for _ in range(250):
            many = draw.randint(3, 6)
            sayings = [drawn_saying(draw, many, 2, 5) for _ in range(draw.randint(1, 10))]
            kinds = [draw.choice(("some", "some", "all")) for _ in range(many)]
            winner = self.hold(sayings, many, kinds)
            self.assertEqual(winner, winner_by_hand(sayings, kinds))
            seen[winner] += 1
        self.assertGreater(min(seen.values()), 50)

    def test_a_thing_that_stands_in_no_saying_is_chosen_too(self):
        for kinds in all_kinds(4):
            self.hold([(3,)], 4, kinds)
            self.hold([(1,), (-4,)], 4, kinds)

    def test_sixteen_things(self):
        answered = [(thing, -thing - 1) for thing in range(1, 16, 2)]
        answered += [(-thing, thing + 1) for thing in range(1, 16, 2)]
        self.assertEqual(self.hold(answered, 16, ["all", "some"] * 8), "yes")
        self.assertEqual(self.hold(answered, 16, ["some", "all"] * 8), "no")
        later = [(thing, -thing - 8) for thing in range(1, 9)] + [(-thing, thing + 8) for thing in range(1, 9)]
        self.assertEqual(self.hold(later, 16, ["all"] * 8 + ["some"] * 8), "yes")
        self.assertEqual(self.hold(later, 16, ["some"] * 8 + ["all"] * 8), "no")
        self.assertEqual(self.hold([], 16, ["all"] * 16), "yes")
        self.assertEqual(self.hold([(16,), (-16,)], 16, ["some"] * 16), "no")

    def test_sixteen_things_and_twenty_four_sayings(self):
        draw = random.Random(22)
        for _ in range(3):
            sayings = [drawn_saying(draw, 16, 3, 6) for _ in range(24)]
            self.hold(sayings, 16, ["some", "some", "all", "some"] * 4)
            self.hold(sayings, 16, ["all"] * 4 + ["some"] * 12)

    def test_no_kinds(self):
        for place, kinds in enumerate([
            ("some", "all", "some"), ["some", "all"], [], ["some"] * 4, ["some", "all", "none"],
            ["some", "all", ""], ["some", "all", "Some"], ["some", "all", "some "], ["some", "all", True],
            ["some", "all", 1], ["some", 0, "all"], [None, "some", "all"], ["some", ["all"], "all"],
            ["some", ("some",), "all"], "some", "all", "someallsome", "", True, False, 3, 0, HUGE, None,
            {"some": 1, "all": 2, "x": 3}, {0: "some", 1: "all", 2: "all"}, iter(["some", "all", "all"]),
            [b"some", "all", "all"], ["some", "all", Unwilling()], [Unwilling()] * 3, Unwilling(),
            [1, 2, 3], [True] * 3,
        ]):
            for sayings in ([(1, 2)], [], [()]):
                with self.subTest(place=place):
                    with self.assertRaises(NoKinds):
                        played(sayings, 3, kinds)
        for name, thing in oddities().items():
            with self.subTest(name=name):
                with self.assertRaises(NoKinds):
                    played([(1,)], 1, thing)
                with self.assertRaises(NoKinds):
                    played([(1,)], 1, [thing])

    def test_how_many_things_there_are_is_heeded(self):
        for many in range(1, 17):
            self.assertEqual(played([(many,)], many, ["some"] * many)[0], "yes")
            for wrong in (many - 1, many + 1):
                with self.assertRaises(NoKinds):
                    played([(many,)], many, ["some"] * wrong)

    def test_no_sayings_comes_ahead_of_no_kinds(self):
        for place, (sayings, many) in enumerate(refused()):
            for kinds in (["some"] * 3, None, ["none"], ("some",), Unwilling()):
                with self.subTest(place=place):
                    with self.assertRaises(NoSayings):
                        played(sayings, many, kinds)
        with self.assertRaises(NoSayings):
            played([(2, 1)], 2, None)
        with self.assertRaises(NoSayings):
            played([], 17, ["some"] * 17)

    def test_what_is_handed_in_stays_as_it_was(self):
        for sayings in ([(1, 2), (-1, -2)], [(2,), (), (1,)], []):
            for kinds in (["some", "all"], ["all", "some"]):
                before = copy.deepcopy((sayings, kinds))
                played(sayings, 2, kinds)
                self.assertEqual((sayings, kinds), before)
        kinds = ["some", "none"]
        with self.assertRaises(NoKinds):
            played([(1,)], 2, kinds)
        self.assertEqual(kinds, ["some", "none"])

    def test_equal_things_give_equal_answers(self):
        for kinds in all_kinds(3):
            told = played([(1, 2), (-1, 3), (-2, -3)], 3, kinds)
            played([(-1,), (2, 3)], 3, kinds)
            self.assertEqual(played([(1, 2), (-1, 3), (-2, -3)], 3, list(kinds)), told)


if __name__ == "__main__":
    unittest.main()
