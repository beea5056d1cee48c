"""What holds over the whole program: refusals of plans, lists that are told, and how the stages fit together."""

import copy
import importlib
import inspect
import itertools
import unittest

from by_trying import KINDS, broader_plans, nearly_plans, neighbours_fit, small_plans, subsets
from nearsums.counted import count_between, count_rings, count_rows, number_of, row_by
from nearsums.cuts import parts_left, short_cut, shows_no_ring, shows_no_row
from nearsums.desk import Desk
from nearsums.errors import NoPlan, SumError
from nearsums.keeper import Keeper
from nearsums.lengths import ring_lengths, row_lengths
from nearsums.longest import greatest_length, longest_part
from nearsums.placed import first_ring, first_row, is_ring, is_row
from nearsums.plans import are_partners, is_plan, partners_of, plan_of
from nearsums.texts import read_plan, show_plan
from nearsums.turns import all_ends, turn_places, turned_at
from odd_things import BearsNothing, EqualToAll, check_refused, odd_things

INTERFACE = {
    "plans": {"is_plan": ["thing"], "partners_of": ["plan", "number"], "are_partners": ["plan", "one", "other"],
              "plan_of": ["kind", "n"]},
    "placed": {"is_row": ["plan", "thing"], "is_ring": ["plan", "thing"], "first_row": ["plan"],
               "first_ring": ["plan"]},
    "counted": {"count_rows": ["plan"], "count_rings": ["plan"], "count_between": ["plan", "one", "other"],
                "row_by": ["plan", "number"], "number_of": ["plan", "thing"]},
    "longest": {"greatest_length": ["plan"], "longest_part": ["plan"]},
    "cuts": {"parts_left": ["plan", "cut"], "shows_no_row": ["plan", "thing"], "shows_no_ring": ["plan", "thing"],
             "short_cut": ["plan"]},
    "lengths": {"row_lengths": ["kind"], "ring_lengths": ["kind"]},
    "turns": {"turn_places": ["plan", "part"], "turned_at": ["plan", "part", "place"], "all_ends": ["plan", "part"]},
    "keeper": {"Keeper": ["plan"]},
    "texts": {"show_plan": ["plan"], "read_plan": ["text"]},
    "desk": {"Desk": []},
}
FULL = ([1, 2, 3, 4], [3, 4, 5, 6, 7])
# Each function with arguments that it answers; what stands ahead of all is a plan where the function is handed one.
ANSWERED = [
    (is_plan, FULL), (partners_of, FULL, 2), (are_partners, FULL, 1, 2), (plan_of, "primes", 6),
    (is_row, FULL, [1, 2, 3, 4]), (is_ring, FULL, [1, 2, 3, 4]), (first_row, FULL), (first_ring, FULL),
    (first_row, ([7], [])), (first_ring, ([7], [])), (count_rows, FULL), (count_rings, FULL),
    (count_between, FULL, 1, 4), (row_by, FULL, 5), (number_of, FULL, [4, 3, 2, 1]), (row_by, ([7], []), 0),
    (greatest_length, FULL), (longest_part, FULL), (longest_part, ([1, 2], [])), (parts_left, FULL, [1]),
    (parts_left, FULL, []), (parts_left, ([1, 2, 3], []), [2]), (shows_no_row, FULL, [1]), (shows_no_ring, FULL, [1]),
    (short_cut, FULL), (short_cut, ([1, 2], [])), (short_cut, ([1, 10, 20, 30], [11, 21, 31])),
    (row_lengths, "primes"), (ring_lengths, "primes"), (row_lengths, "threes"), (turn_places, FULL, [1, 2, 3, 4]),
    (turn_places, FULL, [1]), (turned_at, FULL, [1, 2, 3, 4], 1), (turned_at, FULL, [1, 2, 3, 4], 0),
    (all_ends, FULL, [1, 2, 3, 4]), (all_ends, FULL, [1]), (show_plan, FULL), (read_plan, "1 2: 3"), (read_plan, "7:"),
]


def some_plans():
    return itertools.chain(itertools.islice(small_plans(), 0, None, 7), itertools.islice(broader_plans(), 0, None, 9))


def lists_within(thing):
    """Every list and dict in a thing, also those within others."""
    found = [thing] if isinstance(thing, (list, dict)) else []
    if isinstance(thing, (list, tuple)):
        for part in thing:
            found.extend(lists_within(part))
    return found


def answer(asked):
    return asked[0](*asked[1:])


class TestInterface(unittest.TestCase):
    def test_all_is_there(self):
        for name, things in INTERFACE.items():
            module = importlib.import_module("nearsums." + name)
            for thing, arguments in things.items():
                asked = getattr(module, thing)
                self.assertEqual(asked.__module__, "nearsums." + name)
                self.assertEqual(list(inspect.signature(asked).parameters), arguments)

    def test_each_function_is_answered_here(self):
        wanted = {name for things in INTERFACE.values() for name in things} - {"Keeper", "Desk"}
        self.assertEqual({asked[0].__name__ for asked in ANSWERED}, wanted)


class TestNoPlanAheadOfAll(unittest.TestCase):
    OTHERS = [1, 99, -1, True, None, "1", [1, 2], [2, 2], [], (1,), BearsNothing(), EqualToAll(), [BearsNothing()]]

    def handed_a_plan(self):
        for name, things in INTERFACE.items():
            module = importlib.import_module("nearsums." + name)
            for thing, arguments in things.items():
                if arguments[:1] == ["plan"]:
                    yield getattr(module, thing), len(arguments) - 1

    def test_of_anything(self):
        for asked, more in self.handed_a_plan():
            for place, thing in enumerate(odd_things() + nearly_plans()):
                with self.subTest(asked=asked.__name__, place=place):
                    for others in itertools.product(self.OTHERS, repeat=more):
                        check_refused(self, NoPlan, asked, thing, *others)

    def test_every_function_with_a_plan_is_asked(self):
        self.assertEqual(len(list(self.handed_a_plan())), 22)


class TestNothingShared(unittest.TestCase):
    def test_what_is_handed_in_stays(self):
        for asked in ANSWERED:
            with self.subTest(asked=asked[0].__name__):
                arguments = copy.deepcopy(asked[1:])
                asked[0](*arguments)
                self.assertEqual(arguments, asked[1:])

    def test_told_lists_are_new_ones(self):
        for asked in ANSWERED:
            with self.subTest(asked=asked[0].__name__):
                arguments = copy.deepcopy(asked[1:])
                lists = lists_within([arguments, asked[0](*arguments), asked[0](*arguments)])
                self.assertEqual(len({id(one) for one in lists}), len(lists))

    def test_what_is_done_to_them_changes_nothing(self):
        wanted = [copy.deepcopy(answer(copy.deepcopy(asked))) for asked in ANSWERED]
        for asked in ANSWERED:
            for one in lists_within(answer(copy.deepcopy(asked))):
                one.clear()
                one.extend([99, "x"])
        self.assertEqual([answer(copy.deepcopy(asked)) for asked in ANSWERED], wanted)

    def test_told_stays_while_more_is_asked(self):
        told = [answer(asked) for asked in ANSWERED]
        kept = copy.deepcopy(told)
        for asked in reversed(ANSWERED):
            answer(asked)
        self.assertEqual(told, kept)

    def test_the_same_again(self):
        told = [answer(asked) for asked in ANSWERED]
        self.assertEqual([answer(asked) for asked in reversed(ANSWERED)], told[::-1])
        for asked, one in zip(ANSWERED, told):
            self.assertEqual([answer(asked), answer(asked)], [one, one])

    def test_nothing_is_kept_in_the_files(self):
        def held():
            found = {}
            for name in list(INTERFACE) + ["errors", "steps"]:
                module = importlib.import_module("nearsums." + name)
                found[name] = {key: repr(value) for key, value in vars(module).items() if not key.startswith("__")}
            return found
        before = held()
        for asked in ANSWERED:
            answer(asked)
        desk = Desk()
        for row in ["plan a 1 2 3: 3 5", "kind b primes 6", "come a 4", "rows a", "cut b", "nth b 3"]:
            desk.say(row)
        self.assertEqual(held(), before)


class TestThePromise(unittest.TestCase):
    def test_rows_are_as_many_as_counted_by_number_and_back(self):
        for plan in some_plans():
            with self.subTest(plan=plan):
                rows = [row_by(plan, number) for number in range(count_rows(plan))]
                self.assertEqual(rows, sorted(rows))
                self.assertEqual(len({tuple(row) for row in rows}), len(rows))
                self.assertEqual([number_of(plan, row) for row in rows], list(range(len(rows))))
                self.assertTrue(all(is_row(plan, row) for row in rows))
                orders = [list(order) for order in itertools.permutations(plan[0])]
                self.assertEqual(len([order for order in orders if is_row(plan, order)]), len(rows))
                self.assertEqual(first_row(plan), rows[0] if rows else None)
                between = [count_between(plan, *pair) for pair in itertools.product(plan[0], repeat=2)]
                self.assertEqual(sum(between), len(rows))

    def test_turned_about_a_row_is_a_row(self):
        for plan in some_plans():
            for number in range(count_rows(plan)):
                row = row_by(plan, number)
                self.assertIs(is_row(plan, row[::-1]), True)
                self.assertEqual(is_ring(plan, row[::-1]), is_ring(plan, row))
                self.assertEqual(row_by(plan, number_of(plan, row[::-1])), row[::-1])

    def test_a_ring_begun_at_any_number_is_a_ring(self):
        found = 0
        for plan in some_plans():
            rings = [row for row in (row_by(plan, number) for number in range(count_rows(plan))) if is_ring(plan, row)]
            self.assertEqual(count_rings(plan), len(rings))
            self.assertEqual(first_ring(plan), rings[0] if rings else None)
            for ring in rings:
                for place in range(len(ring)):
                    self.assertIs(is_ring(plan, ring[place:] + ring[:place]), True)
            found += len(rings)
        self.assertGreater(found, 100)

    def test_a_cut_that_is_let_by_shows_that_there_is_none(self):
        shown = {"row": 0, "ring": 0}
        for plan in some_plans():
            for cut in subsets(plan[0]):
                if shows_no_row(plan, cut):
                    self.assertEqual([first_row(plan), count_rows(plan)], [None, 0])
                    shown["row"] += 1
                if shows_no_ring(plan, cut):
                    self.assertEqual([first_ring(plan), count_rings(plan)], [None, 0])
                    shown["ring"] += 1
            cut = short_cut(plan)
            self.assertTrue(cut is None or shows_no_row(plan, cut))
        self.assertGreater(min(shown.values()), 100)

    def test_no_longer_part_row_is_there_than_told(self):
        for plan in some_plans():
            longest = longest_part(plan)
            size = greatest_length(plan)
            self.assertEqual(len(longest), size)
            turn_places(plan, longest)
            self.assertEqual(size == len(plan[0]), count_rows(plan) > 0)
            for order in itertools.permutations(plan[0], min(size + 1, len(plan[0]))):
                if len(order) > size:
                    self.assertFalse(neighbours_fit(plan, order))

    def test_rows_stay_rows_when_their_ends_are_turned(self):
        turned = 0
        for plan in some_plans():
            row = first_row(plan)
            if row is not None:
                for place in turn_places(plan, row):
                    self.assertIs(is_row(plan, turned_at(plan, row, place)), True)
                    turned += 1
                for end in all_ends(plan, row):
                    self.assertGreater(count_between(plan, row[0], end), 0)
        self.assertGreater(turned, 20)

    def test_partners_stand_side_by_side(self):
        for plan in some_plans():
            pairs = [[one, other] for one in plan[0] for other in partners_of(plan, one)]
            for one, other in itertools.product(plan[0], repeat=2):
                self.assertEqual(are_partners(plan, one, other), [one, other] in pairs)
                self.assertEqual(are_partners(plan, one, other), are_partners(plan, other, one))
                if one != other:
                    two = (sorted([one, other]), plan[1])
                    self.assertEqual(is_row(two, [one, other]), [one, other] in pairs)

    def test_lengths_are_those_of_the_plans(self):
        for kind in KINDS:
            plans = {n: plan_of(kind, n) for n in range(1, 11)}
            self.assertEqual(row_lengths(kind), [n for n in plans if count_rows(plans[n]) > 0])
            self.assertEqual(ring_lengths(kind), [n for n in plans if count_rings(plans[n]) > 0])

    def test_keepers_and_desks_tell_as_the_stages(self):
        for plan in some_plans():
            keeper = Keeper(plan)
            desk = Desk()
            desk.say("plan it " + show_plan(plan))
            self.assertEqual(read_plan(desk.say("show it")), keeper.plan())
            self.assertEqual([keeper.count(), keeper.first()], [count_rows(plan), first_row(plan)])
            self.assertEqual(desk.say("rows it"), str(count_rows(plan)))

    def test_every_refusal_is_a_sum_error(self):
        desk = Desk()
        refused = [(count_rows, None), (partners_of, FULL, 9), (plan_of, "cubes", 3), (row_by, FULL, 999),
                   (number_of, FULL, [1]), (parts_left, FULL, [9]), (turn_places, FULL, [9]),
                   (Keeper(FULL).sum_comes, 3), (Keeper((list(range(10)), [])).come, 10), (read_plan, "x"),
                   (desk.say, "rows a"), (desk.say, "x")]
        taken = set()
        for asked in refused:
            with self.assertRaises(SumError) as caught:
                answer(asked)
            taken.add(type(caught.exception).__name__)
        self.assertEqual(len(taken), 12)


if __name__ == "__main__":
    unittest.main()
