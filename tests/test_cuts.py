import copy
import inspect
import itertools
import unittest

from by_trying import (KINDS, nearly_plans, parts_by_trying, plans_to_try, rings_by_trying, rows_by_trying,
                       small_plans, subsets)
from nearsums.cuts import parts_left, short_cut, shows_no_ring, shows_no_row
from nearsums.errors import NoCut, NoPlan
from nearsums.placed import first_row
from nearsums.plans import plan_of
from odd_things import BearsNothing, EqualToAll, check_refused, odd_things

LARGE = 10 ** 24
NINES = 10 ** 25 - 1
# The first number is a partner of all others, which are none of each other.
STAR = ([1, 10, 20, 30], [11, 21, 31])
# Evens and odds alternate: four evens, six odds.
TWO_SIDES = ([0, 1, 4, 5, 7, 8, 9, 11, 12, 13], [3, 5, 7, 9, 17, 19, 25])


def first_cut_by_trying(plan):
    for cut in subsets(plan[0]):
        if len(cut) <= min(3, len(plan[0]) - 1) and len(parts_by_trying(plan, cut)) >= len(cut) + 2:
            return cut
    return None


def cuts_of(plan):
    return [cut for cut in subsets(plan[0]) if len(cut) < len(plan[0])]


def no_cuts(plan):
    """Things that are none, also such as are nearly one."""
    numbers = plan[0]
    things = [thing for thing in odd_things() if not (type(thing) is list and len(thing) == 0)]
    things.extend([list(numbers), numbers[::-1] + [numbers[0]], [numbers[0], numbers[0]], [numbers[-1] + 1],
                   [numbers[0], numbers[-1] + 1], [NINES], tuple(numbers[:1]), (), set(numbers[:1]), numbers[0],
                   [numbers[0], True], [[numbers[0]]], [numbers[0], None], [str(numbers[0])], range(0), "",
                   [numbers[0], BearsNothing()], [EqualToAll(), numbers[0]], numbers + [numbers[-1] + 1],
                   list(range(20)), {numbers[0]: True}])
    if len(numbers) > 2:
        things.append([numbers[1], numbers[0]])
        things.append([numbers[0], numbers[1], numbers[1]])
    return things


class TestByTrying(unittest.TestCase):
    def check_cut(self, plan, cut, rows, rings):
        wanted = parts_by_trying(plan, cut)
        self.assertEqual(parts_left(plan, cut), wanted)
        few = len(plan[0]) < 3
        self.assertIs(shows_no_row(plan, cut), len(wanted) >= len(cut) + 2)
        self.assertIs(shows_no_ring(plan, cut), few or len(wanted) >= (len(cut) + 1 if cut else 2))
        self.assertFalse(rows and shows_no_row(plan, cut))
        self.assertFalse(rings and shows_no_ring(plan, cut))

    def check(self, plan):
        rows = rows_by_trying(plan)
        rings = rings_by_trying(plan, rows)
        for cut in cuts_of(plan):
            self.check_cut(plan, cut, rows, rings)

    def test_small_plans(self):
        for plan in small_plans():
            with self.subTest(plan=plan):
                self.check(plan)

    def test_plans_of_kinds_up_to_seven(self):
        for kind in KINDS:
            for n in range(1, 8):
                with self.subTest(kind=kind, n=n):
                    self.check(plan_of(kind, n))

    def test_short_cuts(self):
        found = []
        for plan in plans_to_try():
            with self.subTest(plan=plan):
                cut = short_cut(plan)
                self.assertEqual(cut, first_cut_by_trying(plan))
                if cut is None:
                    found.append("none")
                else:
                    self.assertIs(shows_no_row(plan, cut), True)
                    self.assertIsNone(first_row(plan))
                    found.append(len(cut))
        self.assertEqual(set(found), {"none", 0, 1, 2})

    def test_short_cuts_of_more_numbers(self):
        found = []
        for numbers in [[0, 1, 2, 6, 8, 9, 12, 13], list(range(1, 11)), TWO_SIDES[0]]:
            for sums in itertools.combinations([1, 7, 9, 11, 13, 17, 19, 21], 5):
                plan = (numbers, list(sums))
                with self.subTest(plan=plan):
                    self.assertEqual(short_cut(plan), first_cut_by_trying(plan))
                    found.append(len(short_cut(plan) or []))
        self.assertEqual(set(found), {0, 1, 2, 3})

    def test_plans_of_kinds(self):
        for kind in KINDS:
            for n in range(1, 11):
                plan = plan_of(kind, n)
                self.assertEqual(short_cut(plan), first_cut_by_trying(plan))


class TestParts(unittest.TestCase):
    def test_none_taken(self):
        self.assertEqual(parts_left(STAR, []), [[1, 10, 20, 30]])
        self.assertEqual(parts_left(([1, 2, 3, 4], [5]), []), [[1, 4], [2, 3]])
        self.assertEqual(parts_left(([1, 2, 3], []), []), [[1], [2], [3]])
        self.assertEqual(parts_left(([7], []), []), [[7]])
        self.assertEqual(parts_left(([0], [0]), []), [[0]])

    def test_some_taken(self):
        self.assertEqual(parts_left(STAR, [1]), [[10], [20], [30]])
        self.assertEqual(parts_left(STAR, [10]), [[1, 20, 30]])
        self.assertEqual(parts_left(STAR, [1, 20]), [[10], [30]])
        self.assertEqual(parts_left(STAR, [10, 20, 30]), [[1]])
        self.assertEqual(parts_left(TWO_SIDES, [0, 4, 8, 12]), [[1], [5], [7], [9], [11], [13]])

    def test_partners_of_partners_are_of_one_part(self):
        # A chain 2, 7, 3, 6, 4 in which no two but neighbours are partners, and two numbers beside it.
        plan = ([2, 3, 4, 6, 7, 20, 21], [9, 10, 41])
        self.assertEqual(parts_left(plan, []), [[2, 3, 4, 6, 7], [20, 21]])
        self.assertEqual(parts_left(plan, [3]), [[2, 7], [4, 6], [20, 21]])
        self.assertEqual(parts_left(plan, [6, 7, 20]), [[2], [3], [4], [21]])

    def test_order_of_their_first_numbers(self):
        plan = ([1, 2, 3, 4, 5, 6], [7])
        self.assertEqual(parts_left(plan, []), [[1, 6], [2, 5], [3, 4]])
        self.assertEqual(parts_left(plan, [1, 2]), [[3, 4], [5], [6]])

    def test_large_numbers(self):
        plan = ([0, 1, LARGE, NINES], [LARGE, LARGE + NINES])
        self.assertEqual(parts_left(plan, []), [[0, LARGE, NINES], [1]])
        self.assertEqual(parts_left(plan, [LARGE]), [[0], [1], [NINES]])


class TestShows(unittest.TestCase):
    def test_no_row(self):
        self.assertIs(shows_no_row(STAR, [1]), True)
        self.assertIs(shows_no_row(STAR, []), False)
        self.assertIs(shows_no_row(STAR, [10]), False)
        self.assertIs(shows_no_row(STAR, [1, 10]), False)
        self.assertIs(shows_no_row(([1, 2, 3], [3]), []), True)
        self.assertIs(shows_no_row(([1, 2, 3], [3, 5]), [2]), False)
        self.assertIs(shows_no_row(TWO_SIDES, [0, 4, 8, 12]), True)

    def test_no_ring(self):
        self.assertIs(shows_no_ring(([1, 2, 3], [3, 5]), [2]), True)
        self.assertIs(shows_no_ring(([1, 2, 3], [3, 5]), [1]), False)
        self.assertIs(shows_no_ring(([1, 2, 3], [3, 5]), []), False)
        self.assertIs(shows_no_ring(([1, 2, 3], [3]), []), True)
        self.assertIs(shows_no_ring(([1, 2, 3], [3]), [3]), False)
        self.assertIs(shows_no_ring(([1, 2, 3, 4], [3, 5, 7]), [1, 3]), False)
        self.assertIs(shows_no_ring(STAR, [1]), True)
        self.assertIs(shows_no_ring(STAR, [1, 10]), False)

    def test_two_taken_and_three_left(self):
        # Each of 10, 20 and 30 is a partner of 1 and of 4 alone.
        plan = ([1, 4, 10, 20, 30], [11, 14, 21, 24, 31, 34])
        self.assertEqual(parts_left(plan, [1, 4]), [[10], [20], [30]])
        self.assertIs(shows_no_ring(plan, [1, 4]), True)
        self.assertIs(shows_no_row(plan, [1, 4]), False)
        self.assertIsNone(short_cut(plan))
        self.assertEqual(first_row(plan), [10, 1, 20, 4, 30])

    def test_fewer_than_three_numbers(self):
        for plan in [([1], []), ([0], [0]), ([1, 2], [3]), ([1, 2], []), ([0, 1], [1])]:
            for cut in cuts_of(plan):
                self.assertIs(shows_no_ring(plan, cut), True)
            self.assertIs(shows_no_ring(plan, list(plan[0])), False)
        self.assertIs(shows_no_row(([1], []), []), False)
        self.assertIs(shows_no_row(([1, 2], [3]), []), False)
        self.assertIs(shows_no_row(([1, 2], [3]), [1]), False)
        self.assertIs(shows_no_row(([1, 2], []), []), True)
        self.assertIs(shows_no_row(([1, 2], []), [2]), False)

    def test_false_of_what_is_no_cut(self):
        for plan in [STAR, ([0], []), ([1], []), ([1, 2], [3]), ([0, 1], []), ([0, 1, 2], []), TWO_SIDES]:
            for place, thing in enumerate(no_cuts(plan)):
                with self.subTest(plan=plan, place=place):
                    self.assertIs(shows_no_row(plan, thing), False)
                    self.assertIs(shows_no_ring(plan, thing), False)


class TestShortCut(unittest.TestCase):
    def test_of_each_size(self):
        self.assertEqual(short_cut(([1, 2, 3], [3])), [])
        self.assertEqual(short_cut(([1, 2], [])), [])
        self.assertEqual(short_cut(STAR), [1])
        self.assertEqual(short_cut(([3, 6, 7, 8], [7, 8, 11, 14, 15])), [8])
        self.assertEqual(short_cut(([0, 2, 7, 9, 10, 11], [7, 8, 9, 11, 12, 13, 15])), [0, 2])
        self.assertEqual(short_cut(([0, 1, 2, 6, 8, 9, 12, 13], [1, 7, 9, 11, 13, 19, 21])), [1, 9, 13])

    def test_none_where_there_is_a_row(self):
        for plan in [([1], []), ([0], [0]), ([1, 2], [3]), ([1, 2, 3], [3, 5]), plan_of("primes", 10),
                     plan_of("threes", 10)]:
            self.assertIsNone(short_cut(plan))

    def test_none_where_there_is_no_row_and_no_cut_that_shows_it(self):
        for plan in [([0, 2, 4, 7, 9, 11], [2, 4, 6, 9, 15, 22]),
                     ([1, 4, 5, 6, 7, 9, 10, 11, 12, 13], [3, 11, 16, 17, 24])]:
            self.assertIsNone(first_row(plan))
            self.assertFalse(any(shows_no_row(plan, cut) for cut in cuts_of(plan)))
            self.assertIsNone(short_cut(plan))

    def test_none_where_only_more_than_three_show_it(self):
        self.assertIs(shows_no_row(TWO_SIDES, [0, 4, 8, 12]), True)
        self.assertIsNone(short_cut(TWO_SIDES))

    def test_the_first_of_the_shortest(self):
        # Two stars: each middle shows it, and so do both together.
        plan = ([1, 2, 10, 20, 30, 100, 200, 300], [11, 21, 31, 32, 102, 202, 302])
        self.assertEqual(parts_left(plan, []), [plan[0]])
        self.assertEqual([cut for cut in cuts_of(plan) if shows_no_row(plan, cut)][:2], [[1], [2]])
        self.assertEqual(short_cut(plan), [1])
        self.assertEqual(short_cut(([1, 2, 10, 20, 30, 100, 200, 300], [11, 21, 31, 102, 202, 302])), [])


class TestRefused(unittest.TestCase):
    def test_no_cut_of_anything(self):
        for plan in [STAR, ([0], []), ([1], []), ([1, 2], [3]), ([0, 1], []), ([0, 1, 2], []), TWO_SIDES]:
            for place, thing in enumerate(no_cuts(plan)):
                with self.subTest(plan=plan, place=place):
                    check_refused(self, NoCut, parts_left, plan, thing)

    def test_true_and_false_are_no_numbers(self):
        plan = ([0, 1, 2], [])
        self.assertEqual(parts_left(plan, [0, 1]), [[2]])
        for thing in [[False], [True], [False, True], [0, True], [False, 1], [True, 2]]:
            check_refused(self, NoCut, parts_left, plan, thing)
            self.assertIs(shows_no_row(plan, thing), False)
            self.assertIs(shows_no_ring(plan, thing), False)

    def test_no_plan_ahead_of_all_else(self):
        for place, thing in enumerate(odd_things() + nearly_plans()):
            with self.subTest(place=place):
                check_refused(self, NoPlan, short_cut, thing)
                for other in [[], [1], [2, 1], None, True, "1", BearsNothing(), EqualToAll(), (1,)]:
                    check_refused(self, NoPlan, parts_left, thing, other)
                    check_refused(self, NoPlan, shows_no_row, thing, other)
                    check_refused(self, NoPlan, shows_no_ring, thing, other)


class TestNothingShared(unittest.TestCase):
    def test_what_is_handed_in_stays(self):
        for plan in [copy.deepcopy(STAR), ([7], []), ([1, 2, 3], [4])]:
            things = [[], [1], [1, 10], [10, 1], [1, "10"]]
            whole = copy.deepcopy((plan, things))
            for thing in things:
                shows_no_row(plan, thing)
                shows_no_ring(plan, thing)
            parts_left(plan, [])
            parts_left(plan, plan[0][:-1])
            check_refused(self, NoCut, parts_left, plan, things[3])
            short_cut(plan)
            self.assertEqual((plan, things), whole)

    def test_told_parts_are_the_askers_own(self):
        for plan, cut in [(([1, 2, 3, 4, 5, 6], [7]), []), (([7], []), []), (copy.deepcopy(STAR), [1])]:
            whole = copy.deepcopy((plan, cut))
            told = parts_left(plan, cut)
            again = parts_left(plan, cut)
            wanted = copy.deepcopy(again)
            lists = [told, again, plan[0], plan[1], cut] + told + again
            self.assertEqual(len({id(one) for one in lists}), len(lists))
            for part in told:
                part.insert(0, 99)
            told.clear()
            self.assertEqual([again, parts_left(plan, cut)], [wanted, wanted])
            self.assertEqual((plan, cut), whole)

    def test_told_cuts_are_the_askers_own(self):
        for plan in [([1, 2, 3], [3]), copy.deepcopy(STAR)]:
            whole = copy.deepcopy(plan)
            told = short_cut(plan)
            again = short_cut(plan)
            wanted = list(again)
            self.assertIs(type(told), list)
            self.assertIsNot(told, again)
            told.append(99)
            self.assertEqual([again, short_cut(plan)], [wanted, wanted])
            self.assertEqual(plan, whole)

    def test_the_same_again(self):
        asked = [lambda: parts_left(STAR, [1]), lambda: shows_no_row(STAR, [1]), lambda: shows_no_ring(STAR, []),
                 lambda: short_cut(STAR), lambda: short_cut(TWO_SIDES)]
        told = [ask() for ask in asked]
        self.assertEqual([ask() for ask in asked], told)
        self.assertEqual([ask() for ask in reversed(asked)], told[::-1])

    def test_a_plan_changed_by_the_asker_is_seen_as_it_is(self):
        plan = ([1, 2, 3], [3])
        self.assertEqual(short_cut(plan), [])
        self.assertEqual(parts_left(plan, []), [[1, 2], [3]])
        plan[1].append(5)
        self.assertIsNone(short_cut(plan))
        self.assertEqual(parts_left(plan, []), [[1, 2, 3]])
        plan[0].append(3)
        check_refused(self, NoPlan, short_cut, plan)


class TestInterface(unittest.TestCase):
    def test_arguments(self):
        wanted = {parts_left: ["plan", "cut"], shows_no_row: ["plan", "thing"], shows_no_ring: ["plan", "thing"],
                  short_cut: ["plan"]}
        for asked, names in wanted.items():
            self.assertEqual(list(inspect.signature(asked).parameters), names)


if __name__ == "__main__":
    unittest.main()
