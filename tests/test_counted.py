import copy
import inspect
import itertools
import unittest

from by_trying import (KINDS, calls_of, nearly_plans, neighbours_fit, plans_to_try, rings_by_trying, rows_by_trying,
                       ways_by_trying)
from nearsums.counted import count_between, count_rings, count_rows, number_of, row_by
from nearsums.errors import NoNumber, NoPlace, NoPlan, NoRow
from nearsums.placed import first_ring, first_row, is_row
from nearsums.plans import plan_of
from odd_things import BearsNothing, EqualToAll, check_refused, odd_things

LARGE = 10 ** 24
NINES = 10 ** 25 - 1
DENSE = (list(range(1, 11)), list(range(6, 16)))
FOUR = ([1, 2, 3, 4], [3, 5, 7])


class TestByTrying(unittest.TestCase):
    def check(self, plan):
        rows = rows_by_trying(plan)
        self.assertEqual(count_rows(plan), len(rows))
        self.assertEqual(count_rings(plan), len(rings_by_trying(plan, rows)))
        for one, other in itertools.product(plan[0], repeat=2):
            wanted = len([row for row in rows if [row[0], row[-1]] == [one, other]])
            self.assertEqual(count_between(plan, one, other), wanted)
        for number, row in enumerate(rows):
            self.assertEqual(row_by(plan, number), row)
            self.assertEqual(number_of(plan, row), number)
        for number in [len(rows), len(rows) + 1, -1]:
            check_refused(self, NoPlace, row_by, plan, number)
        return len(rows)

    def test_plans_with_and_without_rows(self):
        found = []
        for plan in plans_to_try():
            with self.subTest(plan=plan):
                found.append(self.check(plan))
        self.assertGreater(found.count(0), 100)
        self.assertGreater(len([number for number in found if number > 9]), 100)

    def test_plans_of_kinds_up_to_eight(self):
        for kind in KINDS:
            for n in range(1, 9):
                with self.subTest(kind=kind, n=n):
                    self.check(plan_of(kind, n))

    def test_each_order_that_is_no_row(self):
        for plan in [FOUR, ([0, 1, 2, 3, 4], [1, 3, 4, 5]), ([1, 2, 3], [3, 4])]:
            for order in itertools.permutations(plan[0]):
                if not neighbours_fit(plan, order):
                    check_refused(self, NoRow, number_of, plan, list(order))


class TestCounts(unittest.TestCase):
    def test_each_list_for_itself(self):
        plan = ([1, 2, 3], [3, 5])
        self.assertEqual(count_rows(plan), 2)
        self.assertEqual([row_by(plan, 0), row_by(plan, 1)], [[1, 2, 3], [3, 2, 1]])
        self.assertEqual(count_rings(plan), 0)
        self.assertEqual(count_rows(FOUR), 8)
        self.assertEqual(count_rings(FOUR), 8)
        self.assertEqual(count_rings(([1, 2, 3], [3, 4, 5])), 6)

    def test_one_number(self):
        for number in [0, 1, 7, NINES]:
            for sums in [[], [number], [2 * number], list(range(10))]:
                plan = ([number], sums)
                self.assertEqual([count_rows(plan), count_rings(plan)], [1, 0])
                self.assertEqual(count_between(plan, number, number), 1)
                self.assertEqual(row_by(plan, 0), [number])
                self.assertEqual(number_of(plan, [number]), 0)
                check_refused(self, NoPlace, row_by, plan, 1)

    def test_two_numbers(self):
        plan = ([1, 2], [3])
        self.assertEqual([count_rows(plan), count_rings(plan)], [2, 0])
        self.assertEqual([count_between(plan, 1, 2), count_between(plan, 2, 1)], [1, 1])
        self.assertEqual([count_between(plan, 1, 1), count_between(plan, 2, 2)], [0, 0])
        plan = ([1, 2], [2, 4])
        self.assertEqual([count_rows(plan), count_rings(plan)], [0, 0])
        self.assertEqual([count_between(plan, 1, 2), count_between(plan, 1, 1)], [0, 0])

    def test_a_number_and_itself_in_plans_of_more(self):
        for plan in [FOUR, ([0, 1, 2], [0, 1, 2, 3, 4]), DENSE, plan_of("primes", 10), (list(range(10)), [])]:
            for number in plan[0]:
                self.assertEqual(count_between(plan, number, number), 0)

    def test_no_sums(self):
        for n in range(2, 11):
            plan = (list(range(n)), [])
            self.assertEqual([count_rows(plan), count_rings(plan), count_between(plan, 0, 1)], [0, 0, 0])
            check_refused(self, NoPlace, row_by, plan, 0)

    def test_large_numbers(self):
        plan = ([0, LARGE, NINES], [LARGE, NINES, LARGE + NINES])
        self.assertEqual([count_rows(plan), count_rings(plan)], [6, 6])
        self.assertEqual(count_between(plan, NINES, LARGE), 1)
        self.assertEqual(row_by(plan, 3), [LARGE, NINES, 0])
        self.assertEqual(number_of(plan, [NINES, LARGE, 0]), 5)

    def test_counts_are_whole_numbers(self):
        for plan in [FOUR, ([1], []), ([1, 2], []), ([1, 2, 3], [3, 4, 5])]:
            row = first_row(plan)
            told = [count_rows(plan), count_rings(plan), count_between(plan, 1, 1), count_between(plan, 1, plan[0][-1])]
            if row is not None:
                told.append(number_of(plan, row))
            self.assertEqual([type(number) for number in told], [int] * len(told))


class TestTenNumbers(unittest.TestCase):
    # These counts, and the rows below, were found by going through all orders of ten numbers: too long for a test.
    KNOWN = [(DENSE, 311520, 233440), (plan_of("primes", 10), 1328, 960), (plan_of("threes", 10), 2, 0),
             (plan_of("squares", 10), 0, 0)]

    def test_counts(self):
        for plan, rows, rings in self.KNOWN:
            self.assertEqual([count_rows(plan), count_rings(plan)], [rows, rings])

    def test_counts_between_come_to_all(self):
        for plan, rows, rings in self.KNOWN:
            told = {pair: count_between(plan, *pair) for pair in itertools.product(plan[0], repeat=2)}
            self.assertEqual(sum(told.values()), rows)
            closing = [told[pair] for pair in told if sum(pair) in plan[1]]
            self.assertEqual(sum(closing), rings)
            for one, other in told:
                self.assertEqual(told[(one, other)], told[(other, one)])

    def test_known_rows(self):
        known = {0: [1, 5, 2, 4, 7, 8, 6, 9, 3, 10], 1000: [1, 5, 7, 3, 8, 6, 9, 2, 4, 10],
                 77777: [3, 9, 1, 5, 10, 4, 6, 7, 8, 2], 155760: [6, 7, 2, 10, 3, 9, 5, 1, 8, 4],
                 311519: [10, 5, 9, 6, 8, 3, 4, 2, 7, 1]}
        for number, row in known.items():
            self.assertEqual(row_by(DENSE, number), row)
            self.assertEqual(number_of(DENSE, row), number)
        self.assertEqual(count_between(DENSE, 5, 6), 2240)

    def test_rows_by_numbers_and_back(self):
        for number in [0, 1, 2, 1000, 77777, 155759, 155760, 311518, 311519]:
            row = row_by(DENSE, number)
            self.assertIs(is_row(DENSE, row), True)
            self.assertEqual(number_of(DENSE, row), number)
        self.assertEqual(row_by(DENSE, 0), first_row(DENSE))
        ring = first_ring(DENSE)
        self.assertEqual(row_by(DENSE, number_of(DENSE, ring)), ring)
        check_refused(self, NoPlace, row_by, DENSE, 311520)

    def test_order_of_lists(self):
        plan = plan_of("primes", 10)
        rows = [row_by(plan, number) for number in range(1328)]
        self.assertEqual(rows, sorted(rows))
        self.assertEqual(len({tuple(row) for row in rows}), 1328)
        self.assertEqual([number_of(plan, row) for row in rows], list(range(1328)))
        for row in rows:
            self.assertTrue(neighbours_fit(plan, row) and sorted(row) == plan[0])

    def test_turned_about(self):
        plan = plan_of("threes", 10)
        self.assertEqual(row_by(plan, 0), row_by(plan, 1)[::-1])


class TestRefused(unittest.TestCase):
    PLANS = [FOUR, ([0], []), ([1], []), ([0, 1], [1]), ([0, 1, 2], [1, 2, 3]), ([1, 2], [])]

    def test_no_number_of_either_of_anything(self):
        for plan in self.PLANS:
            inside = plan[0][0]
            for place, thing in enumerate(odd_things() + [5, 10, NINES, -NINES]):
                with self.subTest(plan=plan, place=place):
                    check_refused(self, NoNumber, count_between, plan, thing, inside)
                    check_refused(self, NoNumber, count_between, plan, inside, thing)
                    check_refused(self, NoNumber, count_between, plan, thing, thing)

    def test_no_place_of_anything(self):
        for plan in self.PLANS:
            for place, thing in enumerate(odd_things() + [count_rows(plan), count_rows(plan) + 1, 100, NINES, -2]):
                with self.subTest(plan=plan, place=place):
                    check_refused(self, NoPlace, row_by, plan, thing)

    def test_no_row_of_anything(self):
        near = [[1, 2, 3], [1, 2, 3, 4, 1], [1, 3, 2, 4], (1, 2, 3, 4), "1234", [True, 2, 3, 4], [4, 3, 2, True],
                [1, 2, 3, None], [[1, 2, 3, 4]], [1, 2, 3, "4"], [1, 2, 1, 4], [1, 2, 3, 0], range(1, 5),
                [1, 2, 3, BearsNothing()], [1, 2, 3, EqualToAll()], [False, True, 2], [False], [True, False],
                [2, 2], 0, 1, 2]
        for plan in self.PLANS:
            for place, thing in enumerate(odd_things() + near):
                with self.subTest(plan=plan, place=place):
                    check_refused(self, NoRow, number_of, plan, thing)

    def test_true_and_false_are_no_whole_numbers(self):
        plan = ([0, 1], [1])
        self.assertEqual([row_by(plan, 0), row_by(plan, 1)], [[0, 1], [1, 0]])
        for thing in [True, False]:
            check_refused(self, NoPlace, row_by, plan, thing)
            check_refused(self, NoNumber, count_between, plan, thing, 0)
            check_refused(self, NoNumber, count_between, plan, 1, thing)
        check_refused(self, NoRow, number_of, plan, [False, True])
        check_refused(self, NoRow, number_of, plan, [0, True])

    def test_no_plan_ahead_of_all_else(self):
        for place, thing in enumerate(odd_things() + nearly_plans()):
            with self.subTest(place=place):
                check_refused(self, NoPlan, count_rows, thing)
                check_refused(self, NoPlan, count_rings, thing)
                for other in [1, 99, -1, True, None, "1", [1, 2], [2, 2], BearsNothing(), EqualToAll()]:
                    check_refused(self, NoPlan, count_between, thing, other, 1)
                    check_refused(self, NoPlan, count_between, thing, 1, other)
                    check_refused(self, NoPlan, count_between, thing, other, other)
                    check_refused(self, NoPlan, row_by, thing, other)
                    check_refused(self, NoPlan, number_of, thing, other)


class TestNothingShared(unittest.TestCase):
    def test_what_is_handed_in_stays(self):
        for plan in [copy.deepcopy(FOUR), ([7], []), ([1, 2, 3], [4])]:
            row = list(plan[0])
            whole = copy.deepcopy((plan, row))
            lists = [plan[0], plan[1]]
            count_rows(plan)
            count_rings(plan)
            count_between(plan, plan[0][0], plan[0][-1])
            if is_row(plan, row):
                row_by(plan, number_of(plan, row))
            check_refused(self, NoNumber, count_between, plan, 5, 5)
            check_refused(self, NoPlace, row_by, plan, 99)
            check_refused(self, NoRow, number_of, plan, [1])
            self.assertEqual((plan, row), whole)
            self.assertIs(plan[0], lists[0])
            self.assertIs(plan[1], lists[1])

    def test_told_rows_are_the_askers_own(self):
        for plan in [copy.deepcopy(FOUR), ([7], []), ([0, 1, 2], [1, 2, 3])]:
            whole = copy.deepcopy(plan)
            told = row_by(plan, 0)
            again = row_by(plan, 0)
            wanted = list(again)
            self.assertIs(type(told), list)
            self.assertIsNot(told, again)
            self.assertIsNot(told, plan[0])
            told.reverse()
            told.append(99)
            self.assertEqual([again, row_by(plan, 0)], [wanted, wanted])
            self.assertEqual(plan, whole)

    def test_the_same_again(self):
        asked = [lambda: count_rows(FOUR), lambda: count_rings(FOUR), lambda: count_between(FOUR, 1, 4),
                 lambda: row_by(FOUR, 5), lambda: number_of(FOUR, [3, 2, 1, 4])]
        told = [ask() for ask in asked]
        count_rows(DENSE)
        row_by(([1], []), 0)
        self.assertEqual([ask() for ask in asked], told)
        self.assertEqual([ask() for ask in reversed(asked)], told[::-1])

    def test_a_plan_changed_by_the_asker_is_seen_as_it_is(self):
        plan = ([1, 2, 3], [3])
        self.assertEqual(count_rows(plan), 0)
        plan[1].append(5)
        self.assertEqual([count_rows(plan), count_rings(plan), count_between(plan, 1, 3)], [2, 0, 1])
        self.assertEqual(row_by(plan, 1), [3, 2, 1])
        plan[1].insert(1, 4)
        self.assertEqual([count_rows(plan), count_rings(plan), number_of(plan, [3, 2, 1])], [6, 6, 5])
        plan[0].append(3)
        check_refused(self, NoPlan, count_rows, plan)


class TestReckonedOnce(unittest.TestCase):
    # There are ten ends with a set of the nine others behind each; four or five numbers are in such a set in the mean,
    # and each is asked for in a call or two. The rows, and the ways to them, are far more.
    BOUND = 10 * 2 ** 9 * 15

    def check(self, asked, *arguments):
        calls, told = calls_of(asked, DENSE, *arguments)
        self.assertLess(calls, self.BOUND)
        return told

    def test_there_are_far_more_ways(self):
        for number in [1, 5]:
            self.assertGreater(ways_by_trying(DENSE, [number]), self.BOUND)
        self.assertGreater(311520, 4 * self.BOUND)

    def test_counts(self):
        self.assertEqual(self.check(count_rows), 311520)
        self.assertEqual(self.check(count_rings), 233440)
        self.assertEqual(self.check(count_between, 5, 6), 2240)

    def test_rows_by_numbers_and_back(self):
        for number in [0, 155760, 311519]:
            self.assertEqual(self.check(number_of, self.check(row_by, number)), number)


class TestInterface(unittest.TestCase):
    def test_arguments(self):
        wanted = {count_rows: ["plan"], count_rings: ["plan"], count_between: ["plan", "one", "other"],
                  row_by: ["plan", "number"], number_of: ["plan", "thing"]}
        for asked, names in wanted.items():
            self.assertEqual(list(inspect.signature(asked).parameters), names)


if __name__ == "__main__":
    unittest.main()
