import copy
import inspect
import itertools
import unittest

from by_trying import KINDS, nearly_plans, neighbours_fit, small_plans
from nearsums.errors import NoPart, NoPlace, NoPlan
from nearsums.placed import first_row, is_row
from nearsums.plans import plan_of
from nearsums.turns import all_ends, turn_places, turned_at
from odd_things import BearsNothing, EqualToAll, check_refused, odd_things

NINES = 10 ** 25 - 1
LARGE = 10 ** 24
FOUR = ([1, 2, 3, 4], [3, 5, 7])
FULL = ([1, 2, 3, 4], [3, 4, 5, 6, 7])
# Of some of its rows not all ends come where but one row is followed for each end.
TWICE = ([1, 2, 3, 4, 5, 6], [3, 5, 6, 7, 9])


def turned_by_trying(plan, part):
    """By each place at which the end can be turned, what comes of it."""
    turned = {}
    for place in range(len(part)):
        if place + 3 <= len(part) and part[place] + part[-1] in plan[1]:
            turned[place] = [part[k] if k <= place else part[len(part) + place - k] for k in range(len(part))]
    return turned


def ends_by_trying(plan, part):
    parts = [part]
    for one in parts:
        parts.extend([other for other in turned_by_trying(plan, one).values() if other not in parts])
    return sorted({one[-1] for one in parts})


def orders_of(plan):
    for size in range(1, len(plan[0]) + 1):
        for order in itertools.permutations(plan[0], size):
            yield list(order)


class TestByTrying(unittest.TestCase):
    def check_part(self, plan, part):
        turned = turned_by_trying(plan, part)
        self.assertEqual(turn_places(plan, part), sorted(turned))
        for place in range(-3, len(part) + 2):
            if place in turned:
                told = turned_at(plan, part, place)
                self.assertEqual(told, turned[place])
                self.assertTrue(neighbours_fit(plan, told) and sorted(told) == sorted(part))
                self.assertNotEqual(told[-1], part[-1])
                self.assertEqual(turned_at(plan, told, place), part)
            else:
                check_refused(self, NoPlace, turned_at, plan, part, place)
        self.assertEqual(all_ends(plan, part), ends_by_trying(plan, part))
        return len(turned)

    def check_no_part(self, plan, order):
        check_refused(self, NoPart, turn_places, plan, order)
        check_refused(self, NoPart, turned_at, plan, order, 0)
        check_refused(self, NoPart, all_ends, plan, order)

    def test_each_order_of_some_or_all_numbers(self):
        found = []
        for plan in itertools.islice(small_plans(), 0, None, 13):
            with self.subTest(plan=plan):
                for order in orders_of(plan):
                    if neighbours_fit(plan, order):
                        found.append(self.check_part(plan, order))
                    else:
                        self.check_no_part(plan, order)
        for number in [0, 1, 2, 3]:
            self.assertGreater(found.count(number), 20)

    def test_plans_of_kinds(self):
        for kind in KINDS:
            plan = plan_of(kind, 5)
            for order in orders_of(plan):
                if neighbours_fit(plan, order):
                    self.check_part(plan, order)

    def test_first_rows_of_kinds(self):
        for kind, n in itertools.product(KINDS, range(1, 11)):
            plan = plan_of(kind, n)
            row = first_row(plan)
            if row is not None and len(plan[1]) <= 4:
                with self.subTest(kind=kind, n=n):
                    self.check_part(plan, row)


class TestTurned(unittest.TestCase):
    def test_one_and_two_numbers(self):
        for plan, part in [(([7], []), [7]), (([7], [14]), [7]), (([0], [0]), [0]), (FULL, [3]),
                           (([1, 2], [3]), [1, 2]), (([1, 2], [3]), [2, 1]), (FULL, [4, 2]),
                           (([0, NINES], [NINES]), [NINES, 0])]:
            self.assertEqual(turn_places(plan, part), [])
            self.assertEqual(all_ends(plan, part), [part[-1]])
            for place in [0, 1, 2, -1, -2, -3]:
                check_refused(self, NoPlace, turned_at, plan, part, place)

    def test_three_numbers(self):
        plan = ([1, 2, 3], [3, 4, 5])
        self.assertEqual(turn_places(plan, [1, 2, 3]), [0])
        self.assertEqual(turned_at(plan, [1, 2, 3], 0), [1, 3, 2])
        self.assertEqual(all_ends(plan, [1, 2, 3]), [2, 3])
        plan = ([1, 2, 3], [3, 5])
        self.assertEqual(turn_places(plan, [1, 2, 3]), [])
        self.assertEqual(all_ends(plan, [1, 2, 3]), [3])

    def test_the_place_next_to_the_end_is_none(self):
        # Its number is the end's partner, but the end alone stands behind it.
        self.assertEqual(turn_places(FULL, [1, 2, 3, 4]), [0, 1])
        check_refused(self, NoPlace, turned_at, FULL, [1, 2, 3, 4], 2)
        check_refused(self, NoPlace, turned_at, FULL, [1, 2, 3, 4], 3)
        self.assertEqual(turned_at(FULL, [1, 2, 3, 4], 0), [1, 4, 3, 2])
        self.assertEqual(turned_at(FULL, [1, 2, 3, 4], 1), [1, 2, 4, 3])

    def test_places_are_not_counted_from_behind(self):
        for place in [-1, -2, -3, -4, -5, -NINES, NINES, 4]:
            check_refused(self, NoPlace, turned_at, FULL, [1, 2, 3, 4], place)

    def test_part_rows_and_rows(self):
        part = [4, 3, 2]
        self.assertIs(is_row(FULL, part), False)
        self.assertEqual([turn_places(FULL, part), turned_at(FULL, part, 0)], [[0], [4, 2, 3]])
        self.assertEqual(all_ends(FULL, part), [2, 3])
        self.assertIs(is_row(FOUR, [1, 2, 3, 4]), True)
        self.assertEqual(turn_places(FOUR, [1, 2, 3, 4]), [0])
        self.assertEqual(all_ends(FOUR, [1, 2, 3, 4]), [2, 4])

    def test_numbers_outside_the_part_are_no_ends(self):
        plan = ([1, 2, 3, 10], [3, 4, 5, 11, 12, 13])
        self.assertEqual(all_ends(plan, [1, 2, 3]), [2, 3])
        self.assertEqual(all_ends(plan, [10, 1, 2]), [1, 2])

    def test_the_first_number_stays(self):
        for part in itertools.permutations([1, 2, 3, 4]):
            if neighbours_fit(FULL, part):
                self.assertEqual(all_ends(FULL, list(part)), sorted(part[1:]))

    def test_large_numbers(self):
        plan = ([0, LARGE, NINES], [LARGE, NINES, LARGE + NINES])
        self.assertEqual(turn_places(plan, [NINES, LARGE, 0]), [0])
        self.assertEqual(turned_at(plan, [NINES, LARGE, 0], 0), [NINES, 0, LARGE])
        self.assertEqual(all_ends(plan, [NINES, LARGE, 0]), [0, LARGE])


class TestAllEnds(unittest.TestCase):
    def test_ends_are_followed_again_and_again(self):
        plan = ([1, 2, 3, 4, 5], [3, 4, 6, 7])
        self.assertEqual(turn_places(plan, [5, 1, 2, 4, 3]), [1])
        self.assertEqual(turned_at(plan, [5, 1, 2, 4, 3], 1), [5, 1, 3, 4, 2])
        self.assertEqual(all_ends(plan, [5, 1, 2, 4, 3]), [1, 2, 3, 4])

    def test_one_end_by_unlike_part_rows(self):
        found = 0
        for order in itertools.permutations(TWICE[0]):
            part = list(order)
            if neighbours_fit(TWICE, part):
                wanted = ends_by_trying(TWICE, part)
                self.assertEqual(all_ends(TWICE, part), wanted)
                found += self.by_ends_alone(TWICE, part) != wanted
        self.assertGreater(found, 0)
        self.assertEqual(all_ends(TWICE, [2, 3, 4, 5, 1, 6]), [1, 3, 4, 5, 6])

    def by_ends_alone(self, plan, part):
        rows = {part[-1]: part}
        waiting = [part]
        for one in waiting:
            for turned in turned_by_trying(plan, one).values():
                if turned[-1] not in rows:
                    rows[turned[-1]] = turned
                    waiting.append(turned)
        return sorted(rows)

    def test_eight_numbers_and_many_sums(self):
        plan = (list(range(1, 9)), list(range(4, 14)))
        self.assertEqual(all_ends(plan, first_row(plan)), [2, 3, 4, 5, 6, 7, 8])

    def test_ten_numbers_and_four_sums(self):
        plan = (list(range(1, 11)), [5, 8, 11, 14])
        for part in [[1, 4, 7], [10, 4, 7, 1], [1, 4, 10], [2, 3, 8, 6, 5, 9]]:
            self.assertEqual(all_ends(plan, part), ends_by_trying(plan, part))

    def test_each_once_and_rising(self):
        for plan in [FULL, FOUR, (list(range(1, 9)), [5, 8, 9, 11, 13])]:
            told = all_ends(plan, first_row(plan))
            self.assertEqual(told, sorted(set(told)))
            self.assertIn(first_row(plan)[-1], told)


class TestRefused(unittest.TestCase):
    PLANS = [FULL, ([0], []), ([1], []), ([0, 1], [1]), ([0, 1, 2], [1, 2, 3]), ([1, 2], [])]
    NO_PARTS = [[1, 2, 3, 4, 1], [1, 1], [0, 0], [2, 2], (1, 2, 3), (1,), "123", [True, 2, 3], [3, 2, True], [True],
                [False], [1, 2, None], [[1, 2, 3]], [1, "2"], [1, 9], [9, 1], [99], [1, 2, -1], range(1, 4), [],
                [1, BearsNothing()], [EqualToAll(), 1], [False, True], [1, 2, 3, 4, 5, 6, 7, 8, 9, 10, 11], 1, 0]

    def test_no_part_of_anything(self):
        for plan in self.PLANS:
            for place, thing in enumerate(odd_things() + self.NO_PARTS):
                with self.subTest(plan=plan, place=place):
                    check_refused(self, NoPart, turn_places, plan, thing)
                    check_refused(self, NoPart, all_ends, plan, thing)

    def test_no_part_ahead_of_no_place(self):
        for place, thing in enumerate(odd_things() + self.NO_PARTS):
            with self.subTest(place=place):
                for other in [0, 1, 99, -1, True, None, "0", [0], BearsNothing(), EqualToAll()]:
                    check_refused(self, NoPart, turned_at, FULL, thing, other)

    def test_no_place_of_anything(self):
        for plan, part in [(FULL, [1, 2, 3, 4]), (FULL, [2, 4, 1]), (([0, 1, 2], [1, 2, 3]), [0, 1, 2]), (FOUR, [1]),
                           (FOUR, [2, 1])]:
            for place, thing in enumerate(odd_things() + [5, 99, NINES, -2]):
                with self.subTest(part=part, place=place):
                    check_refused(self, NoPlace, turned_at, plan, part, thing)

    def test_true_and_false_are_no_whole_numbers(self):
        self.assertEqual(turn_places(FULL, [1, 2, 3, 4]), [0, 1])
        check_refused(self, NoPlace, turned_at, FULL, [1, 2, 3, 4], False)
        check_refused(self, NoPlace, turned_at, FULL, [1, 2, 3, 4], True)
        for part in [[True, 2, 3, 4], [4, 3, 2, True], [True], [True, 2]]:
            check_refused(self, NoPart, turn_places, FULL, part)
            check_refused(self, NoPart, turned_at, FULL, part, 0)
            check_refused(self, NoPart, all_ends, FULL, part)

    def test_no_plan_ahead_of_all_else(self):
        for place, thing in enumerate(odd_things() + nearly_plans()):
            with self.subTest(place=place):
                for other in [[1, 2], [1], [2, 2], 1, -1, True, None, "1", BearsNothing(), EqualToAll()]:
                    check_refused(self, NoPlan, turn_places, thing, other)
                    check_refused(self, NoPlan, turned_at, thing, other, 0)
                    check_refused(self, NoPlan, turned_at, thing, other, other)
                    check_refused(self, NoPlan, all_ends, thing, other)


class TestNothingShared(unittest.TestCase):
    def ask_all(self, plan, part):
        return [turn_places(plan, part), turned_at(plan, part, 0), all_ends(plan, part)]

    def test_what_is_handed_in_stays(self):
        plan = copy.deepcopy(FULL)
        part = [1, 2, 3, 4]
        self.ask_all(plan, part)
        check_refused(self, NoPlace, turned_at, plan, part, 2)
        check_refused(self, NoPart, all_ends, plan, [1, 1])
        self.assertEqual([plan, part], [FULL, [1, 2, 3, 4]])

    def test_told_lists_are_the_askers_own(self):
        for plan, part in [(FULL, [1, 2, 3, 4]), (FOUR, [1, 2, 3, 4])]:
            plan = copy.deepcopy(plan)
            part = list(part)
            told = self.ask_all(plan, part)
            wanted = copy.deepcopy(told)
            again = self.ask_all(plan, part)
            lists = told + again + [part, plan[0], plan[1]]
            self.assertEqual(len({id(one) for one in lists}), len(lists))
            for one in told:
                self.assertIs(type(one), list)
                one.reverse()
                one.append(99)
            self.assertEqual([again, self.ask_all(plan, part)], [wanted, wanted])

    def test_ends_of_one_number_are_no_part_handed_in(self):
        part = [7]
        told = all_ends(([7], []), part)
        told.append(8)
        self.assertEqual(part, [7])


class TestInterface(unittest.TestCase):
    def test_arguments(self):
        wanted = {turn_places: ["plan", "part"], turned_at: ["plan", "part", "place"], all_ends: ["plan", "part"]}
        for asked, names in wanted.items():
            self.assertEqual(list(inspect.signature(asked).parameters), names)


if __name__ == "__main__":
    unittest.main()
