import copy
import inspect
import itertools
import unittest

from by_trying import (KINDS, calls_of, nearly_plans, neighbours_fit, plans_to_try, rings_by_trying, rows_by_trying,
                       small_plans, ways_by_trying)
from nearsums.errors import NoPlan, SumError
from nearsums.placed import first_ring, first_row, is_ring, is_row
from nearsums.plans import plan_of
from odd_things import BearsNothing, EqualToAll, odd_things

LARGE = 10 ** 24
NINES = 10 ** 25 - 1
ASKED = [first_row, first_ring]


class TestByTrying(unittest.TestCase):
    def check(self, plan):
        rows = rows_by_trying(plan)
        rings = rings_by_trying(plan, rows)
        self.assertEqual(first_row(plan), rows[0] if rows else None)
        self.assertEqual(first_ring(plan), rings[0] if rings else None)
        return rows, rings

    def test_first_ones_are_the_first_of_all(self):
        seen = {"no row": 0, "no ring": 0, "ring": 0}
        for plan in plans_to_try():
            with self.subTest(plan=plan):
                rows, rings = self.check(plan)
                seen["no row" if not rows else "no ring" if not rings else "ring"] += 1
        self.assertGreater(min(seen.values()), 100)

    def test_each_order_is_told_rightly(self):
        for plan in itertools.chain([([0, 1, 2, 3, 4], [1, 3, 4, 5]), ([1, 2, 3, 4, 5], [3, 4, 5, 7, 9])],
                                    itertools.islice(small_plans(), 0, 2000, 40)):
            for order in itertools.permutations(plan[0]):
                row = neighbours_fit(plan, order)
                ring = row and len(order) > 2 and order[-1] + order[0] in plan[1]
                with self.subTest(plan=plan, order=order):
                    self.assertIs(is_row(plan, list(order)), row)
                    self.assertIs(is_ring(plan, list(order)), ring)

    def test_plans_of_kinds_up_to_eight(self):
        for kind in KINDS:
            for n in range(1, 9):
                with self.subTest(kind=kind, n=n):
                    self.check(plan_of(kind, n))


class TestIsRow(unittest.TestCase):
    PLAN = ([1, 2, 3, 4], [3, 5, 7])

    def test_rows(self):
        for row in [[1, 2, 3, 4], [4, 3, 2, 1], [3, 4, 1, 2], [2, 1, 4, 3]]:
            self.assertIs(is_row(self.PLAN, row), True)

    def test_no_rows(self):
        for thing in [[], [1], [1, 2], [1, 2, 3], [2, 3, 4], [1, 3, 2, 4], [1, 2, 4, 3], [1, 2, 3, 4, 1], [1, 2, 1, 4],
                      [1, 2, 3, 2], [1, 2, 3, 4, 5], [1, 2, 3, 0], (1, 2, 3, 4), "1234", {1: 2, 2: 3, 3: 4, 4: 1},
                      [True, 2, 3, 4], [4, 3, 2, True], ["1", 2, 3, 4], [1, 2, 3, None], [[1, 2, 3, 4]],
                      [[1], 2, 3, 4], range(1, 5), [-1, 2, 3, 4], [1, 2, 3, BearsNothing()], [1, 2, 3, EqualToAll()]]:
            with self.subTest(thing=type(thing)):
                self.assertIs(is_row(self.PLAN, thing), False)
                self.assertIs(is_ring(self.PLAN, thing), False)

    def test_told_of_anything(self):
        for plan in [self.PLAN, ([1], []), ([0], [0]), ([1], [2]), ([0, 1], [1]), ([0, 1, 2], [1, 2, 3])]:
            for place, thing in enumerate(odd_things()):
                with self.subTest(plan=plan, place=place):
                    self.assertIs(is_row(plan, thing), False)
                    self.assertIs(is_ring(plan, thing), False)

    def test_true_and_false_are_no_numbers(self):
        plan = ([0, 1, 2], [1, 2, 3])
        self.assertIs(is_ring(plan, [0, 1, 2]), True)
        for thing in [[False, 1, 2], [0, True, 2], [False, True, 2], [True, 0, 2]]:
            self.assertIs(is_row(plan, thing), False)
            self.assertIs(is_ring(plan, thing), False)
        self.assertIs(is_row(([1], []), [True]), False)
        self.assertIs(is_row(([0], []), [False]), False)

    def test_one_number(self):
        for number in [0, 1, 7, NINES]:
            for sums in [[], [number], [2 * number]]:
                self.assertIs(is_row(([number], sums), [number]), True)
                self.assertIs(is_ring(([number], sums), [number]), False)
                self.assertIs(is_row(([number], sums), [number, number]), False)

    def test_a_row_of_a_part_or_of_more_is_none(self):
        plan = ([1, 2, 3, 4, 9], [3, 5, 7])
        self.assertIs(is_row(plan, [1, 2, 3, 4]), False)
        self.assertIs(is_row(([1, 2], [2, 3, 4]), [1, 1, 2]), False)


class TestIsRing(unittest.TestCase):
    def test_rings_begun_anywhere_and_turned_about(self):
        plan = ([1, 2, 3, 4], [3, 5, 7])
        ring = [1, 2, 3, 4]
        for start in range(4):
            begun = ring[start:] + ring[:start]
            self.assertIs(is_ring(plan, begun), True)
            self.assertIs(is_ring(plan, begun[::-1]), True)

    def test_a_row_that_is_no_ring(self):
        plan = ([1, 2, 3, 4], [3, 5, 6])
        self.assertIs(is_row(plan, [1, 4, 2, 3]), True)
        self.assertIs(is_ring(plan, [1, 4, 2, 3]), False)
        self.assertIs(is_ring(plan, [3, 2, 4, 1]), False)
        plan = ([1, 2, 3], [3, 5])
        self.assertIs(is_row(plan, [1, 2, 3]), True)
        self.assertIs(is_ring(plan, [1, 2, 3]), False)
        self.assertIs(is_ring(plan, [3, 2, 1]), False)

    def test_fewer_than_three_are_no_ring(self):
        self.assertIs(is_row(([1, 2], [3]), [1, 2]), True)
        self.assertIs(is_ring(([1, 2], [3]), [1, 2]), False)
        self.assertIs(is_ring(([1, 2], [3]), [2, 1]), False)
        self.assertIs(is_ring(([0], [0]), [0]), False)

    def test_three_may_be_one(self):
        self.assertIs(is_ring(([1, 2, 3], [3, 4, 5]), [2, 3, 1]), True)

    def test_closing_fits_but_a_neighbour_does_not(self):
        self.assertIs(is_ring(([1, 2, 3], [3, 4]), [1, 2, 3]), False)
        self.assertIs(is_ring(([1, 2, 3], [3, 4]), [2, 1, 3]), False)


class TestFirst(unittest.TestCase):
    def test_one_number(self):
        for number in [0, 5, NINES]:
            for sums in [[], [2 * number], list(range(10))]:
                self.assertEqual(first_row(([number], sums)), [number])
                self.assertIsNone(first_ring(([number], sums)))

    def test_two_numbers(self):
        self.assertEqual(first_row(([1, 2], [3])), [1, 2])
        self.assertIsNone(first_ring(([1, 2], [3])))
        self.assertIsNone(first_row(([1, 2], [2, 4])))
        self.assertIsNone(first_ring(([1, 2], [2, 4])))

    def test_no_sums(self):
        for n in range(2, 11):
            self.assertIsNone(first_row((list(range(n)), [])))
            self.assertIsNone(first_ring((list(range(n)), [])))

    def test_a_row_and_no_ring(self):
        self.assertEqual(first_row(([1, 2, 3], [3, 5])), [1, 2, 3])
        self.assertIsNone(first_ring(([1, 2, 3], [3, 5])))
        self.assertEqual(first_row(([1, 2, 3], [3, 4])), [2, 1, 3])
        self.assertIsNone(first_ring(([1, 2, 3], [3, 4])))

    def test_no_row(self):
        self.assertIsNone(first_row(([0, 1, 2, 3], [1, 2])))
        self.assertIsNone(first_row(([1, 2, 3, 100], [3, 4, 5])))
        self.assertIsNone(first_row(plan_of("squares", 10)))

    def test_ten_numbers_and_ten_sums(self):
        for sums in [list(range(3, 13)), list(range(8, 18)), list(range(1, 20, 2)), list(range(0, 10))]:
            plan = (list(range(1, 11)), sums)
            self.assertEqual(first_row(plan), self.first_by_trying(plan))
        self.assertEqual(first_row(plan_of("primes", 10)), [1, 2, 3, 4, 7, 6, 5, 8, 9, 10])
        self.assertEqual(first_ring(plan_of("primes", 10)), [1, 2, 3, 4, 7, 6, 5, 8, 9, 10])

    def first_by_trying(self, plan):
        for order in itertools.permutations(plan[0]):
            if neighbours_fit(plan, order):
                return list(order)
        return None

    def test_large_numbers(self):
        numbers = [0, 1, LARGE, NINES]
        plan = (numbers, [1, LARGE, LARGE + 1, NINES])
        self.assertEqual(first_row(plan), rows_by_trying(plan)[0])
        self.assertIsNone(first_ring(plan))
        plan = ([0, LARGE, NINES], [LARGE, NINES, LARGE + NINES])
        self.assertEqual(first_ring(plan), [0, LARGE, NINES])

    def test_what_is_told_is_one(self):
        for sums in itertools.combinations(range(3, 20), 5):
            plan = (list(range(1, 11)), list(sums))
            row = first_row(plan)
            ring = first_ring(plan)
            if row is not None:
                self.assertIs(is_row(plan, row), True)
                self.assertIs(is_row(plan, row[::-1]), True)
                self.assertLess(row[0], row[-1])
            if ring is not None:
                self.assertIsNotNone(row)
                self.assertLessEqual(row, ring)
                for start in range(10):
                    self.assertIs(is_ring(plan, ring[start:] + ring[:start]), True)
                self.assertEqual(ring[0], 1)
                self.assertLess(ring[1], ring[-1])


class TestRefused(unittest.TestCase):
    def test_no_plan_of_anything(self):
        for place, thing in enumerate(odd_things()):
            with self.subTest(place=place):
                for asked in ASKED + [lambda plan: is_row(plan, [1]), lambda plan: is_ring(plan, None),
                                      lambda plan: is_row(plan, BearsNothing())]:
                    with self.assertRaises(SumError) as taken:
                        asked(thing)
                    self.assertIs(type(taken.exception), NoPlan)
                    self.assertIsInstance(taken.exception, ValueError)

    def test_what_is_nearly_a_plan(self):
        for thing in nearly_plans():
            with self.subTest(thing=thing):
                for asked in ASKED:
                    self.assertRaises(NoPlan, asked, thing)
                self.assertRaises(NoPlan, is_row, thing, [1, 2])
                self.assertRaises(NoPlan, is_ring, thing, [1, 2])


class TestNothingShared(unittest.TestCase):
    def test_what_is_handed_in_stays(self):
        plan = ([1, 2, 3, 4], [3, 5, 7])
        rows = [[1, 2, 3, 4], [4, 3, 2, 1], [2, 1, 3, 4], [4, "1"]]
        whole = copy.deepcopy((plan, rows))
        for row in rows:
            is_row(plan, row)
            is_ring(plan, row)
        for asked in ASKED:
            asked(plan)
        self.assertEqual((plan, rows), whole)

    def test_told_lists_are_the_askers_own(self):
        for plan in [([1, 2, 3, 4], [3, 5, 7]), ([0, 1, 2], [1, 2, 3])]:
            whole = copy.deepcopy(plan)
            for asked in ASKED:
                told = asked(plan)
                again = asked(plan)
                wanted = list(again)
                self.assertIsNot(told, again)
                self.assertIsNot(told, plan[0])
                told.reverse()
                told.append(99)
                self.assertEqual(again, wanted)
                self.assertEqual(asked(plan), wanted)
                self.assertEqual(plan, whole)

    def test_one_number_is_told_in_a_list_of_its_own(self):
        plan = ([7], [])
        told = first_row(plan)
        told.append(8)
        self.assertEqual(plan, ([7], []))
        self.assertEqual(first_row(plan), [7])

    def test_a_plan_changed_by_the_asker_is_seen_as_it_is(self):
        plan = ([1, 2, 3], [3])
        self.assertIsNone(first_row(plan))
        plan[1].append(5)
        self.assertEqual(first_row(plan), [1, 2, 3])
        self.assertIs(is_row(plan, [1, 2, 3]), True)
        plan[1].insert(1, 4)
        self.assertEqual(first_ring(plan), [1, 2, 3])
        plan[0].append(3)
        self.assertRaises(NoPlan, first_row, plan)


class TestReckonedOnce(unittest.TestCase):
    # Nine numbers with many ways among them, and one that none of the ways comes to: there is nothing to find,
    # and there are far more ways than sets of the nine with an end.
    PLAN = (list(range(9)) + [100], list(range(3, 13)))
    BESIDE = 1000

    def check(self, asked, sets_and_ends, ways):
        # A set and end asks for four others in the mean, eight at most, and is itself reckoned in a few calls more.
        bound = sets_and_ends * 9 + self.BESIDE
        self.assertGreater(ways, 2 * bound)
        calls, told = calls_of(asked, self.PLAN)
        self.assertIsNone(told)
        self.assertLess(calls, bound)

    def test_rows(self):
        ways = sum(ways_by_trying(self.PLAN, [start]) for start in range(9))
        self.check(first_row, 9 * 2 ** 8, ways)

    def test_rings(self):
        self.check(first_ring, 8 * 2 ** 7, ways_by_trying(self.PLAN, [0]))


class TestInterface(unittest.TestCase):
    def test_arguments(self):
        wanted = {is_row: ["plan", "thing"], is_ring: ["plan", "thing"], first_row: ["plan"], first_ring: ["plan"]}
        for asked, names in wanted.items():
            self.assertEqual(list(inspect.signature(asked).parameters), names)


if __name__ == "__main__":
    unittest.main()
