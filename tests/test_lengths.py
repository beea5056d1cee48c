import inspect
import unittest

from by_trying import KINDS, rings_by_trying, rows_by_trying
from nearsums.errors import NoKind
from nearsums.lengths import ring_lengths, row_lengths
from nearsums.placed import first_ring, first_row
from nearsums.plans import plan_of
from odd_things import check_refused, odd_things

ROWS = {"squares": [1], "threes": [1, 2, 9, 10], "primes": list(range(1, 11)), "powers": [1]}
RINGS = {"squares": [], "threes": [], "primes": [4, 6, 8, 10], "powers": []}


class TestLengths(unittest.TestCase):
    def test_all_four_kinds(self):
        for kind in KINDS:
            with self.subTest(kind=kind):
                self.assertEqual(row_lengths(kind), ROWS[kind])
                self.assertEqual(ring_lengths(kind), RINGS[kind])

    def test_up_to_nine_by_trying(self):
        for kind in KINDS:
            for n in range(1, 10):
                with self.subTest(kind=kind, n=n):
                    rows = rows_by_trying(plan_of(kind, n))
                    self.assertEqual(n in row_lengths(kind), len(rows) > 0)
                    self.assertEqual(n in ring_lengths(kind), len(rings_by_trying(plan_of(kind, n), rows)) > 0)

    def test_as_the_first_row_and_ring_tell(self):
        for kind in KINDS:
            for n in range(1, 11):
                with self.subTest(kind=kind, n=n):
                    self.assertEqual(n in row_lengths(kind), first_row(plan_of(kind, n)) is not None)
                    self.assertEqual(n in ring_lengths(kind), first_ring(plan_of(kind, n)) is not None)

    def test_kinds(self):
        for kind in KINDS:
            for told in [row_lengths(kind), ring_lengths(kind)]:
                self.assertIs(type(told), list)
                self.assertEqual([type(n) for n in told], [int] * len(told))


class TestRefused(unittest.TestCase):
    def test_no_kind_of_anything(self):
        for place, thing in enumerate(odd_things() + ["SQUARES", "squares\n", " primes", "cubes", ["squares"],
                                                      ("primes",), {"powers": 1}, 3, 10]):
            with self.subTest(place=place):
                check_refused(self, NoKind, row_lengths, thing)
                check_refused(self, NoKind, ring_lengths, thing)


class TestNothingShared(unittest.TestCase):
    def test_told_lists_are_the_askers_own(self):
        for asked, wanted in [(row_lengths, ROWS), (ring_lengths, RINGS)]:
            for kind in KINDS:
                told = asked(kind)
                again = asked(kind)
                self.assertIsNot(told, again)
                told.append(99)
                told.reverse()
                self.assertEqual([again, asked(kind)], [wanted[kind], wanted[kind]])


class TestInterface(unittest.TestCase):
    def test_arguments(self):
        for asked in [row_lengths, ring_lengths]:
            self.assertEqual(list(inspect.signature(asked).parameters), ["kind"])


if __name__ == "__main__":
    unittest.main()
