"""The lengths for which the plans of a kind of sums have rows and rings."""

from nearsums.placed import first_ring, first_row
from nearsums.plans import MOST, plan_of


def row_lengths(kind):
    return [n for n in range(1, MOST + 1) if first_row(plan_of(kind, n)) is not None]


def ring_lengths(kind):
    return [n for n in range(1, MOST + 1) if first_ring(plan_of(kind, n)) is not None]
