import copy
import inspect
import itertools
import unittest

from by_trying import (KINDS, calls_of, first_longest_by_trying, nearly_plans, neighbours_fit, plans_to_try,
                       ways_by_trying)
from nearsums.errors import NoPlan
from nearsums.longest import greatest_length, longest_part
from nearsums.placed import first_row
from nearsums.plans import plan_of
from odd_things import check_refused, odd_things

LARGE = 10 ** 24
NINES = 10 ** 25 - 1
ASKED = [greatest_length, longest_part]


class TestByTrying(unittest.TestCase):
    def check(self, plan):
        wanted = first_longest_by_trying(plan)
        self.assertEqual(greatest_length(plan), len(wanted))
        self.assertEqual(longest_part(plan), wanted)
        return len(wanted)

    def test_all_fit_or_not(self):
        seen = {"one": 0, "some": 0, "all": 0}
        for plan in plans_to_try():
            with self.subTest(plan=plan):
                length = self.check(plan)
                seen["all" if length == len(plan[0]) else "one" if length == 1 else "some"] += 1
        self.assertGreater(min(seen.values()), 10)

    def test_plans_of_kinds_up_to_eight(self):
        for kind in KINDS:
            for n in range(1, 9):
                with self.subTest(kind=kind, n=n):
                    self.check(plan_of(kind, n))

    def test_eight_numbers(self):
        for sums in [[3, 5, 12], [4, 5, 11, 12], [8, 9], [7, 15], [3, 4], [5, 10, 15]]:
            with self.subTest(sums=sums):
                self.check((list(range(1, 9)), sums))


class TestLongest(unittest.TestCase):
    def test_one_number(self):
        for number in [0, 1, 7, NINES]:
            for sums in [[], [number], [2 * number]]:
                self.assertEqual(greatest_length(([number], sums)), 1)
                self.assertEqual(longest_part(([number], sums)), [number])

    def test_no_two_are_partners(self):
        for numbers, sums in [([3, 5, 8], []), ([3, 5, 8], [6, 10, 16]), (list(range(10)), []), ([0, 4], [0, 8]),
                              ([1, 2], [1, 2, 4]), ([LARGE, NINES], [NINES])]:
            self.assertEqual(greatest_length((numbers, sums)), 1)
            self.assertEqual(longest_part((numbers, sums)), [numbers[0]])

    def test_all_fit(self):
        self.assertEqual(longest_part(([1, 2, 3], [3, 5])), [1, 2, 3])
        self.assertEqual(longest_part(([1, 2, 3], [3, 4])), [2, 1, 3])
        for sums in [list(range(3, 13)), list(range(8, 18)), list(range(1, 20, 2)), [3, 5, 7, 11, 13, 17, 19]]:
            plan = (list(range(1, 11)), sums)
            self.assertEqual(greatest_length(plan), 10)
            self.assertEqual(longest_part(plan), first_row(plan))

    def test_not_all_fit(self):
        self.assertEqual(longest_part(([1, 2, 3, 100], [3, 4, 5])), [1, 2, 3])
        self.assertEqual(longest_part(([1, 10, 20, 30], [11, 21, 31])), [10, 1, 20])
        self.assertEqual(longest_part(([0, 1, 2, 3, 4], [1, 6])), [0, 1])
        self.assertEqual(longest_part(([0, 1, 2, 3, 4], [6])), [2, 4])
        self.assertEqual(longest_part(plan_of("squares", 3)), [1, 3])

    def test_the_longer_is_ahead_of_the_earlier(self):
        self.assertEqual(longest_part(([0, 1, 5, 6, 7], [1, 11, 13])), [5, 6, 7])
        self.assertEqual(longest_part(([0, 1, 5, 9], [1, 6])), [0, 1, 5])

    def test_large_numbers(self):
        plan = ([0, 1, LARGE, NINES], [LARGE, LARGE + NINES])
        self.assertEqual(greatest_length(plan), 3)
        self.assertEqual(longest_part(plan), [0, LARGE, NINES])

    def test_what_is_told_is_one(self):
        for sums in itertools.combinations(range(3, 20), 3):
            plan = (list(range(1, 11)), list(sums))
            part = longest_part(plan)
            self.assertEqual(greatest_length(plan), len(part))
            self.assertTrue(neighbours_fit(plan, part))
            self.assertEqual(len(set(part) & set(plan[0])), len(part))
            self.assertEqual(len(part) == 10, first_row(plan) is not None)
            self.assertLessEqual(part, part[::-1])

    def test_kinds(self):
        self.assertIs(type(greatest_length(([1, 2, 3], [3]))), int)
        self.assertIs(type(longest_part(([1, 2, 3], [3]))), list)


class TestRefused(unittest.TestCase):
    def test_no_plan_of_anything(self):
        for place, thing in enumerate(odd_things() + nearly_plans()):
            with self.subTest(place=place):
                for asked in ASKED:
                    check_refused(self, NoPlan, asked, thing)


class TestNothingShared(unittest.TestCase):
    def test_what_is_handed_in_stays(self):
        for plan in [([1, 2, 3, 4], [3, 5, 7]), ([7], []), ([1, 2, 3, 9], [4, 5])]:
            whole = copy.deepcopy(plan)
            lists = [plan[0], plan[1]]
            for asked in ASKED:
                asked(plan)
            self.assertEqual(plan, whole)
            self.assertIs(plan[0], lists[0])
            self.assertIs(plan[1], lists[1])

    def test_told_lists_are_the_askers_own(self):
        for plan in [([1, 2, 3, 4], [3, 5, 7]), ([7], []), ([1, 2], []), ([1, 2, 3, 9], [4, 5])]:
            whole = copy.deepcopy(plan)
            told = longest_part(plan)
            again = longest_part(plan)
            wanted = list(again)
            self.assertIsNot(told, again)
            self.assertIsNot(told, plan[0])
            told.reverse()
            told.append(99)
            self.assertEqual([again, longest_part(plan)], [wanted, wanted])
            self.assertEqual(plan, whole)

    def test_the_same_again(self):
        plans = [([1, 2, 3, 4], [3, 5, 7]), ([7], []), ([1, 2, 3, 9], [4, 5])]
        told = [(greatest_length(plan), longest_part(plan)) for plan in plans]
        self.assertEqual([(greatest_length(plan), longest_part(plan)) for plan in plans], told)
        self.assertEqual([(greatest_length(plan), longest_part(plan)) for plan in plans[::-1]], told[::-1])

    def test_a_plan_changed_by_the_asker_is_seen_as_it_is(self):
        plan = ([1, 2, 3], [3])
        self.assertEqual([greatest_length(plan), longest_part(plan)], [2, [1, 2]])
        plan[1].append(5)
        self.assertEqual([greatest_length(plan), longest_part(plan)], [3, [1, 2, 3]])
        plan[0].append(3)
        check_refused(self, NoPlan, greatest_length, plan)


class TestReckonedOnce(unittest.TestCase):
    # Nine numbers with many ways among them, and one beside that no way comes to, so that all fit in none.
    # A set and end asks for four others in the mean, each in a call or two; the ways are far more.
    PLAN = (list(range(9)) + [100], list(range(3, 13)))
    BOUND = 9 * 2 ** 8 * 15

    def test_longest(self):
        self.assertGreater(sum(ways_by_trying(self.PLAN, [number]) for number in range(9)), 4 * self.BOUND)
        for asked, wanted in [(greatest_length, 9), (longest_part, [0, 3, 1, 2, 6, 5, 7, 4, 8])]:
            calls, told = calls_of(asked, self.PLAN)
            self.assertEqual(told, wanted)
            self.assertLess(calls, self.BOUND)


class TestInterface(unittest.TestCase):
    def test_arguments(self):
        for asked in ASKED:
            self.assertEqual(list(inspect.signature(asked).parameters), ["plan"])


if __name__ == "__main__":
    unittest.main()
