import copy
import inspect
import itertools
import unittest

from by_trying import mixed_numbers, nearly_plans, rows_by_trying
from nearsums.counted import count_rows
from nearsums.errors import NoNumber, NoPlan, NoSum, TooMany
from nearsums.keeper import Keeper
from nearsums.placed import first_row
from nearsums.plans import plan_of
from odd_things import check_refused, odd_things

NINES = 10 ** 25 - 1
LARGE = 10 ** 24
TEN_NUMBERS = list(range(1, 11))
TEN_SUMS = list(range(6, 16))


def deeds_of(keeper):
    return [keeper.come, keeper.go, keeper.sum_comes, keeper.sum_goes]


def told_of(keeper):
    return [keeper.plan(), keeper.count(), keeper.first()]


class TestComesAndGoes(unittest.TestCase):
    def check_told(self, keeper, plan):
        rows = rows_by_trying(plan)
        self.assertEqual(told_of(keeper), [plan, len(rows), rows[0] if rows else None])

    def test_begins_with_its_plan(self):
        for plan in [([7], []), ([0], [0]), ([1, 2, 3, 4], [3, 5, 7]), ([1, 2], [2, 4]), plan_of("primes", 6)]:
            self.check_told(Keeper(plan), plan)

    def test_a_number_comes(self):
        keeper = Keeper(([2, 4], [5, 6, 7]))
        self.assertEqual(keeper.come(3), (2, 6))
        self.check_told(keeper, ([2, 3, 4], [5, 6, 7]))
        self.assertEqual(keeper.come(9), (6, 0))
        self.check_told(keeper, ([2, 3, 4, 9], [5, 6, 7]))
        self.assertEqual(keeper.come(0), (0, 0))
        self.check_told(keeper, ([0, 2, 3, 4, 9], [5, 6, 7]))

    def test_a_number_goes(self):
        keeper = Keeper(([1, 2, 3, 9], [3, 4, 5]))
        self.assertEqual(keeper.go(9), (0, 6))
        self.check_told(keeper, ([1, 2, 3], [3, 4, 5]))
        self.assertEqual(keeper.go(1), (6, 2))
        self.check_told(keeper, ([2, 3], [3, 4, 5]))
        self.assertEqual(keeper.go(2), (2, 1))
        self.check_told(keeper, ([3], [3, 4, 5]))

    def test_a_sum_comes(self):
        keeper = Keeper(([1, 2, 3], []))
        self.assertEqual(keeper.sum_comes(5), (0, 0))
        self.assertEqual(keeper.sum_comes(3), (0, 2))
        self.check_told(keeper, ([1, 2, 3], [3, 5]))
        self.assertEqual(keeper.sum_comes(4), (2, 6))
        self.assertEqual(keeper.sum_comes(0), (6, 6))
        self.check_told(keeper, ([1, 2, 3], [0, 3, 4, 5]))

    def test_a_sum_goes(self):
        keeper = Keeper(([1, 2, 3], [3, 4, 5]))
        self.assertEqual(keeper.sum_goes(4), (6, 2))
        self.check_told(keeper, ([1, 2, 3], [3, 5]))
        self.assertEqual(keeper.sum_goes(3), (2, 0))
        self.assertEqual(keeper.sum_goes(5), (0, 0))
        self.check_told(keeper, ([1, 2, 3], []))

    def test_the_only_sum_may_go_and_the_only_number_not(self):
        keeper = Keeper(([1, 2], [3]))
        self.assertEqual(keeper.sum_goes(3), (2, 0))
        self.assertEqual(keeper.go(1), (0, 1))
        check_refused(self, NoNumber, keeper.go, 2)
        check_refused(self, NoSum, keeper.sum_goes, 3)
        self.check_told(keeper, ([2], []))
        keeper = Keeper(([0], [0]))
        check_refused(self, NoNumber, keeper.go, 0)
        self.assertEqual(keeper.sum_goes(0), (1, 1))
        self.check_told(keeper, ([0], []))

    def test_up_to_ten(self):
        keeper = Keeper(([1], []))
        for number in range(2, 11):
            keeper.come(number)
        for number in TEN_SUMS:
            keeper.sum_comes(number)
        self.assertEqual(keeper.plan(), (TEN_NUMBERS, TEN_SUMS))
        self.assertEqual(keeper.count(), 311520)
        self.assertEqual(keeper.go(3), (311520, count_rows(([1, 2] + TEN_NUMBERS[3:], TEN_SUMS))))
        self.assertEqual(keeper.come(3)[1], 311520)

    def test_large_numbers(self):
        keeper = Keeper(([0, LARGE], [LARGE]))
        self.assertEqual(keeper.come(NINES), (2, 0))
        self.assertEqual(keeper.sum_comes(NINES), (0, 2))
        self.assertEqual(keeper.plan(), ([0, LARGE, NINES], [LARGE, NINES]))
        self.assertEqual(keeper.first(), [LARGE, 0, NINES])

    def test_kinds_of_what_is_told(self):
        keeper = Keeper(([1, 2], [3]))
        for told in [keeper.come(3), keeper.go(3), keeper.sum_comes(4), keeper.sum_goes(4)]:
            self.assertIs(type(told), tuple)
            self.assertEqual([type(number) for number in told], [int, int])
        self.assertIs(type(keeper.count()), int)
        self.assertIs(type(keeper.first()), list)
        self.assertIs(type(keeper.plan()), tuple)
        self.assertEqual([type(part) for part in keeper.plan()], [list, list])
        self.assertIsNone(Keeper(([1, 2], [])).first())


class TestAsAnew(unittest.TestCase):
    """Behind any deeds all is told as of a Keeper made anew of the plan."""

    def wanted(self, place, number, plan):
        """What a deed must lead to: a refusal or the plan behind it."""
        things = list(plan[place // 2])
        if place % 2 == 0:
            if len(things) == 10:
                return TooMany
            if number < 0 or number in things:
                return [NoNumber, NoSum][place // 2]
            things = sorted(things + [number])
        else:
            if number not in things or (place == 1 and len(things) == 1):
                return [NoNumber, NoSum][place // 2]
            things.remove(number)
        return (things, plan[1]) if place < 2 else (plan[0], things)

    def do_deed(self, keeper, place, number):
        plan = keeper.plan()
        wanted = self.wanted(place, number, plan)
        anew = Keeper(plan)
        if isinstance(wanted, tuple):
            told = deeds_of(keeper)[place](number)
            self.assertEqual(told, (count_rows(plan), count_rows(wanted)))
            self.assertEqual(told, deeds_of(anew)[place](number))
        else:
            check_refused(self, wanted, deeds_of(keeper)[place], number)
            check_refused(self, wanted, deeds_of(anew)[place], number)
            wanted = plan
        self.assertEqual(told_of(keeper), [wanted, count_rows(wanted), first_row(wanted)])
        self.assertEqual(told_of(keeper), told_of(Keeper(wanted)))
        self.assertEqual(told_of(keeper), told_of(anew))

    def test_each_two_deeds(self):
        plan = ([1, 2, 4], [3, 5])
        for one, other in itertools.product(itertools.product(range(4), range(-1, 7)), repeat=2):
            with self.subTest(deeds=(one, other)):
                keeper = Keeper(plan)
                self.do_deed(keeper, *one)
                self.do_deed(keeper, *other)

    def test_many_deeds(self):
        chosen = mixed_numbers()
        for begun in [([1], []), ([1, 2, 3], [3, 4, 5]), (TEN_NUMBERS[:7], TEN_SUMS[:5]), (TEN_NUMBERS, TEN_SUMS)]:
            keeper = Keeper(begun)
            for deed in range(48):
                with self.subTest(begun=begun, deed=deed):
                    self.do_deed(keeper, [0, 0, 1, 2, 2, 3][next(chosen) % 6], next(chosen) % 15 - 1)

    def test_there_and_back(self):
        plan = ([1, 2, 3, 4], [3, 5, 7])
        keeper = Keeper(plan)
        before = told_of(keeper)
        there = [keeper.come(5), keeper.sum_comes(6), keeper.go(2)]
        back = [keeper.come(2), keeper.sum_goes(6), keeper.go(5)]
        self.assertEqual(back, [told[::-1] for told in reversed(there)])
        self.assertEqual(told_of(keeper), before)


class TestRefused(unittest.TestCase):
    def check_all_stay(self, keeper, refusals, thing):
        before = told_of(keeper)
        for deed, refusal in zip(deeds_of(keeper), refusals):
            check_refused(self, refusal, deed, thing)
            self.assertEqual(told_of(keeper), before)

    def test_of_anything(self):
        refusals = [NoNumber, NoNumber, NoSum, NoSum]
        for plan in [([0, 1, 2], [0, 1, 3]), ([1], []), ([0], [0]), ([3, 5], [8])]:
            for place, thing in enumerate(odd_things()):
                with self.subTest(plan=plan, place=place):
                    self.check_all_stay(Keeper(plan), refusals, thing)

    def test_too_many_ahead_of_all(self):
        keeper = Keeper((TEN_NUMBERS, [3]))
        for thing in odd_things() + TEN_NUMBERS + [11, 0, 99, NINES]:
            check_refused(self, TooMany, keeper.come, thing)
        self.assertEqual(keeper.plan(), (TEN_NUMBERS, [3]))
        self.assertEqual(keeper.sum_comes(5), (0, 0))
        keeper = Keeper(([1, 2], TEN_SUMS))
        for thing in odd_things() + TEN_SUMS + [16, 0, 99, NINES]:
            check_refused(self, TooMany, keeper.sum_comes, thing)
        self.assertEqual(keeper.plan(), ([1, 2], TEN_SUMS))
        self.assertEqual(keeper.come(5), (0, 2))

    def test_none_too_many_with_nine(self):
        keeper = Keeper((TEN_NUMBERS[:9], TEN_SUMS[:9]))
        check_refused(self, NoNumber, keeper.come, 9)
        check_refused(self, NoSum, keeper.sum_comes, 6)
        keeper.come(10)
        keeper.sum_comes(15)
        check_refused(self, TooMany, keeper.come, 11)
        check_refused(self, TooMany, keeper.sum_comes, 16)
        keeper.go(1)
        keeper.sum_goes(6)
        check_refused(self, NoNumber, keeper.come, 10)
        check_refused(self, NoSum, keeper.sum_comes, 15)
        self.assertEqual(keeper.plan(), (TEN_NUMBERS[1:], TEN_SUMS[1:]))

    def test_going_is_never_too_many(self):
        keeper = Keeper((TEN_NUMBERS, TEN_SUMS))
        for thing in odd_things() + [0, 99]:
            check_refused(self, NoNumber, keeper.go, thing)
            check_refused(self, NoSum, keeper.sum_goes, thing)

    def test_there_already_or_not_there(self):
        keeper = Keeper(([1, 2, 5], [3, 6]))
        before = told_of(keeper)
        for number in [1, 2, 5, -1, -3]:
            check_refused(self, NoNumber, keeper.come, number)
        for number in [0, 3, 4, 6, -1]:
            check_refused(self, NoNumber, keeper.go, number)
        for number in [3, 6, -1, -3]:
            check_refused(self, NoSum, keeper.sum_comes, number)
        for number in [0, 1, 2, 5, -3]:
            check_refused(self, NoSum, keeper.sum_goes, number)
        self.assertEqual(told_of(keeper), before)

    def test_the_only_number(self):
        keeper = Keeper(([4], [3, 6]))
        for thing in [4, 3, 0, -4, True, None, "4", [4]]:
            check_refused(self, NoNumber, keeper.go, thing)
        self.assertEqual(told_of(keeper), [([4], [3, 6]), 1, [4]])

    def test_true_and_false_are_no_whole_numbers(self):
        for plan in [([0, 1], [0, 1]), ([2, 3], [5])]:
            for thing in [True, False]:
                self.check_all_stay(Keeper(plan), [NoNumber, NoNumber, NoSum, NoSum], thing)

    def test_no_plan_of_anything(self):
        for place, thing in enumerate(odd_things() + nearly_plans()):
            with self.subTest(place=place):
                check_refused(self, NoPlan, Keeper, thing)


class TestNothingShared(unittest.TestCase):
    def test_two_keepers(self):
        plan = ([1, 2, 3], [3, 4, 5])
        one = Keeper(plan)
        other = Keeper(plan)
        third = Keeper(one.plan())
        one.go(3)
        one.sum_goes(4)
        other.come(7)
        other.sum_comes(9)
        self.assertEqual(one.plan(), ([1, 2], [3, 5]))
        self.assertEqual(other.plan(), ([1, 2, 3, 7], [3, 4, 5, 9]))
        self.assertEqual(third.plan(), ([1, 2, 3], [3, 4, 5]))
        self.assertEqual([one.count(), other.count(), third.count()], [2, 4, 6])
        self.assertEqual(plan, ([1, 2, 3], [3, 4, 5]))

    def test_what_was_handed_in(self):
        plan = ([1, 2, 3], [3, 4, 5])
        keeper = Keeper(plan)
        before = told_of(keeper)
        plan[0].append(9)
        plan[1].clear()
        self.assertEqual(told_of(keeper), before)
        keeper.come(4)
        self.assertEqual(plan, ([1, 2, 3, 9], []))

    def test_what_was_told(self):
        for deed in [None, lambda keeper: keeper.come(8), lambda keeper: keeper.go(3),
                     lambda keeper: keeper.sum_comes(9), lambda keeper: keeper.sum_goes(5)]:
            keeper = Keeper(([1, 2, 3], [3, 4, 5]))
            if deed is not None:
                deed(keeper)
            wanted = copy.deepcopy(told_of(keeper))
            told = [keeper.plan(), keeper.plan()]
            lists = [part for plan in told for part in plan]
            lists += [row for row in [keeper.first(), keeper.first()] if row is not None]
            self.assertEqual(len({id(one) for one in lists}), len(lists))
            for one in lists:
                one.clear()
                one.append(77)
            self.assertEqual(told_of(keeper), wanted)
            self.assertEqual(keeper.come(30), (wanted[1], 0))

    def test_told_plans_stay_as_they_were_told(self):
        keeper = Keeper(([1, 2, 3], [3, 4, 5]))
        told = keeper.plan()
        row = keeper.first()
        keeper.come(4)
        keeper.go(1)
        keeper.sum_comes(6)
        keeper.sum_goes(3)
        self.assertEqual([told, row], [([1, 2, 3], [3, 4, 5]), [1, 2, 3]])

    def test_asking_changes_nothing(self):
        keeper = Keeper(([1, 2, 3, 4], [3, 5, 7]))
        told = [told_of(keeper) for ask in range(3)]
        self.assertEqual(told[0], told[1])
        self.assertEqual(told[1], told[2])


class TestInterface(unittest.TestCase):
    def test_arguments(self):
        wanted = {Keeper: ["plan"], Keeper.come: ["self", "number"], Keeper.go: ["self", "number"],
                  Keeper.sum_comes: ["self", "number"], Keeper.sum_goes: ["self", "number"], Keeper.plan: ["self"],
                  Keeper.count: ["self"], Keeper.first: ["self"]}
        for asked, names in wanted.items():
            self.assertEqual(list(inspect.signature(asked).parameters), names)


if __name__ == "__main__":
    unittest.main()
