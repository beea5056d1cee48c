import copy
import inspect
import unittest

from nearsums import errors
from nearsums.errors import NoKind, NoNumber, NoPlan, SumError
from nearsums.plans import are_partners, is_plan, partners_of, plan_of
from odd_things import BearsNothing, EqualToAll, odd_things

LARGE = 10 ** 24
NINES = 10 ** 25 - 1
KINDS = ["squares", "threes", "primes", "powers"]
SUMS_OF_TEN = {
    "squares": [4, 9, 16],
    "threes": [3, 6, 10, 15],
    "primes": [3, 5, 7, 11, 13, 17, 19],
    "powers": [4, 8, 16],
}


class TestIsPlan(unittest.TestCase):
    def test_plans(self):
        ten = list(range(1, 11))
        plans = [
            ([1], []), ([0], []), ([0], [0]), ([7], [7]), ([1, 2, 3], [3, 5]), (ten, []), (ten, ten),
            (list(range(10)), list(range(10))), ([0, 1], [1]), ([3, 100, 101], [1]), ([1], ten),
            ([LARGE, NINES], [LARGE]), ([0, NINES], [0, LARGE, NINES]),
        ]
        for plan in plans:
            with self.subTest(plan=plan):
                self.assertIs(is_plan(plan), True)

    def test_lists_that_are_no_numbers_of_a_plan(self):
        wrong = [
            [2, 1], [1, 1], [1, 2, 2], [1, 3, 2], [0, 0], [-1], [-1, 0], [-NINES, 1], list(range(11)),
            list(range(20)), [True], [False], [0, True], [False, 1], [True, 2], [0, 1, True], [1, "2"], [1, None],
            [1, [2]], [[1], 2], (1, 2), "12", {1: 2}, None, 1, True,
        ]
        for things in wrong:
            with self.subTest(things=things):
                self.assertIs(is_plan((things, [3])), False)
                self.assertIs(is_plan(([1, 2], things)), False)

    def test_none_of_the_numbers_is_no_plan_and_none_of_the_sums_is(self):
        self.assertIs(is_plan(([], [])), False)
        self.assertIs(is_plan(([], [3])), False)
        self.assertIs(is_plan(([3], [])), True)

    def test_tuples_and_lists_in_the_wrong_places(self):
        for thing in [[[1], []], ((1,), []), ([1], ()), ((1,), ()), [(1,), ()], ([1],), ([1], [], []), [1], []]:
            with self.subTest(thing=thing):
                self.assertIs(is_plan(thing), False)

    def test_told_of_anything(self):
        for place, thing in enumerate(odd_things()):
            with self.subTest(place=place):
                self.assertIs(is_plan(thing), False)


class TestPartners(unittest.TestCase):
    PLAN = ([0, 1, 2, 3, 6, 7], [2, 3, 9])

    def test_partners_rising(self):
        told = {number: partners_of(self.PLAN, number) for number in self.PLAN[0]}
        self.assertEqual(told, {0: [2, 3], 1: [2], 2: [0, 1, 7], 3: [0, 6], 6: [3], 7: [2]})

    def test_a_number_is_not_its_own_partner(self):
        for plan, number in [(([1, 2, 3], [2, 4, 6]), 1), (([0], [0]), 0), (([5], [10]), 5)]:
            with self.subTest(plan=plan):
                self.assertNotIn(number, partners_of(plan, number))
                self.assertIs(are_partners(plan, number, number), False)
        self.assertEqual(partners_of(([1, 2, 3], [2, 4, 6]), 1), [3])
        self.assertEqual(partners_of(([0], [0]), 0), [])

    def test_are_partners_as_told_by_partners_of(self):
        for one in self.PLAN[0]:
            for other in self.PLAN[0]:
                with self.subTest(one=one, other=other):
                    wanted = one != other and one + other in (2, 3, 9)
                    self.assertIs(are_partners(self.PLAN, one, other), wanted)
                    self.assertEqual(other in partners_of(self.PLAN, one), wanted)

    def test_edges(self):
        self.assertEqual(partners_of(([1], []), 1), [])
        self.assertEqual(partners_of(([0, 1], [1]), 0), [1])
        self.assertEqual(partners_of(([0, 1], [0]), 0), [])
        ten = list(range(10))
        self.assertEqual(partners_of((ten, []), 4), [])
        self.assertEqual(partners_of((ten, list(range(1, 11))), 0), list(range(1, 10)))
        self.assertEqual(partners_of((ten, list(range(1, 11))), 9), [0, 1])

    def test_large_numbers(self):
        plan = ([0, 1, LARGE, LARGE + 1, NINES], [1, LARGE + 1, NINES])
        self.assertEqual(partners_of(plan, 0), [1, LARGE + 1, NINES])
        self.assertEqual(partners_of(plan, LARGE), [1])
        self.assertEqual(partners_of(plan, NINES), [0])
        self.assertIs(are_partners(plan, 1, LARGE), True)
        self.assertIs(are_partners(plan, 1, LARGE + 1), False)
        self.assertIs(are_partners(([LARGE, NINES], [LARGE + NINES]), NINES, LARGE), True)

    def test_what_is_no_number_of_the_plan(self):
        plan = ([0, 1, 3], [1, 4])
        for place, thing in enumerate(odd_things() + [2, 4, 5, NINES]):
            with self.subTest(place=place):
                for asked in [lambda: partners_of(plan, thing), lambda: are_partners(plan, thing, 1),
                              lambda: are_partners(plan, 1, thing), lambda: are_partners(plan, thing, thing)]:
                    with self.assertRaises(SumError) as taken:
                        asked()
                    self.assertIs(type(taken.exception), NoNumber)

    def test_no_plan_ahead_of_no_number(self):
        for place, thing in enumerate(odd_things()):
            for number in [1, 99, True, None, "1", BearsNothing(), EqualToAll()]:
                with self.subTest(place=place):
                    for asked in [lambda: partners_of(thing, number), lambda: are_partners(thing, number, number),
                                  lambda: are_partners(thing, 1, number)]:
                        with self.assertRaises(SumError) as taken:
                            asked()
                        self.assertIs(type(taken.exception), NoPlan)

    def test_what_is_nearly_a_plan_is_refused(self):
        for thing in [([2, 1], [3]), ([1, 1], [3]), ([1, 2], [3, 3]), ([1, 2], [4, 3]), ([1, 2], (3,)),
                      [[1, 2], [3]], (list(range(11)), [3]), ([1, 2], list(range(11))), ([-1, 1], [3]),
                      ([1, 2], [-1, 3]), ([], [3])]:
            with self.subTest(thing=thing):
                self.assertRaises(NoPlan, partners_of, thing, 1)
                self.assertRaises(NoPlan, are_partners, thing, 1, 2)


class TestPlanOf(unittest.TestCase):
    def test_plans_of_ten(self):
        for kind in KINDS:
            with self.subTest(kind=kind):
                self.assertEqual(plan_of(kind, 10), (list(range(1, 11)), SUMS_OF_TEN[kind]))

    def test_every_length(self):
        for kind in KINDS:
            for n in range(1, 11):
                with self.subTest(kind=kind, n=n):
                    told = plan_of(kind, n)
                    wanted = [value for value in SUMS_OF_TEN[kind] if value <= 2 * n - 1]
                    self.assertEqual(told, (list(range(1, n + 1)), wanted))
                    self.assertIs(is_plan(told), True)
                    self.assertEqual([type(told), type(told[0]), type(told[1])], [tuple, list, list])

    def test_short_ones(self):
        for kind in KINDS:
            self.assertEqual(plan_of(kind, 1), ([1], []))
        self.assertEqual(plan_of("squares", 2), ([1, 2], []))
        self.assertEqual(plan_of("powers", 2), ([1, 2], []))
        self.assertEqual(plan_of("threes", 2), ([1, 2], [3]))
        self.assertEqual(plan_of("primes", 2), ([1, 2], [3]))
        self.assertEqual(plan_of("squares", 5), ([1, 2, 3, 4, 5], [4, 9]))

    def test_no_kind(self):
        for place, thing in enumerate(odd_things() + ["SQUARES", "squares\n", "cubes", ["squares"], ("primes",)]):
            for n in [5, 0, 11, True, None, BearsNothing()]:
                with self.subTest(place=place):
                    with self.assertRaises(SumError) as taken:
                        plan_of(thing, n)
                    self.assertIs(type(taken.exception), NoKind)

    def test_no_length(self):
        for kind in KINDS:
            for place, thing in enumerate(odd_things() + [0, 11, 12, 20, NINES, -NINES, "squares"]):
                with self.subTest(kind=kind, place=place):
                    with self.assertRaises(SumError) as taken:
                        plan_of(kind, thing)
                    self.assertIs(type(taken.exception), NoNumber)


class TestNothingShared(unittest.TestCase):
    def test_what_is_handed_in_stays(self):
        plan = ([1, 2, 3, 6, 7], [3, 4, 9])
        whole = copy.deepcopy(plan)
        lists = [plan[0], plan[1]]
        is_plan(plan)
        for number in list(plan[0]):
            partners_of(plan, number)
            are_partners(plan, number, 3)
        self.assertRaises(NoNumber, partners_of, plan, 5)
        self.assertRaises(NoNumber, are_partners, plan, 1, 5)
        self.assertEqual(plan, whole)
        self.assertIs(plan[0], lists[0])
        self.assertIs(plan[1], lists[1])

    def test_what_is_refused_stays(self):
        for thing in [([2, 1], [3]), [[1, 2], [3]], ([1, 1], [5, 4])]:
            whole = copy.deepcopy(thing)
            is_plan(thing)
            self.assertRaises(NoPlan, partners_of, thing, 1)
            self.assertEqual(thing, whole)

    def test_told_partners_are_the_askers_own(self):
        plan = ([0, 1, 2, 3], [1, 2, 3])
        told = partners_of(plan, 0)
        self.assertEqual(told, [1, 2, 3])
        again = partners_of(plan, 0)
        self.assertIsNot(told, again)
        told.append(99)
        told[0] = 98
        self.assertEqual(again, [1, 2, 3])
        self.assertEqual(partners_of(plan, 0), [1, 2, 3])
        self.assertEqual(plan, ([0, 1, 2, 3], [1, 2, 3]))

    def test_told_plans_are_the_askers_own(self):
        for kind in KINDS:
            told = plan_of(kind, 10)
            again = plan_of(kind, 10)
            self.assertIsNot(told[0], again[0])
            self.assertIsNot(told[1], again[1])
            self.assertIsNot(told[0], told[1])
            told[0].clear()
            told[1].insert(0, 99)
            self.assertEqual(again, (list(range(1, 11)), SUMS_OF_TEN[kind]))
            self.assertEqual(plan_of(kind, 10), (list(range(1, 11)), SUMS_OF_TEN[kind]))
        self.assertIsNot(plan_of("squares", 1)[1], plan_of("powers", 1)[1])

    def test_a_plan_changed_by_the_asker_is_seen_as_it_is(self):
        plan = ([1, 2, 3], [3])
        self.assertEqual(partners_of(plan, 2), [1])
        plan[1].append(5)
        self.assertEqual(partners_of(plan, 2), [1, 3])
        plan[0].append(0)
        self.assertRaises(NoPlan, partners_of, plan, 2)


class TestInterface(unittest.TestCase):
    def test_arguments(self):
        wanted = {is_plan: ["thing"], partners_of: ["plan", "number"], are_partners: ["plan", "one", "other"],
                  plan_of: ["kind", "n"]}
        for asked, names in wanted.items():
            self.assertEqual(list(inspect.signature(asked).parameters), names)

    def test_refusals_are_value_errors(self):
        for asked in [lambda: partners_of(None, 1), lambda: partners_of(([1], []), 2), lambda: plan_of("", 1),
                      lambda: plan_of("primes", 0)]:
            self.assertRaises(ValueError, asked)
            self.assertRaises(errors.SumError, asked)


if __name__ == "__main__":
    unittest.main()
