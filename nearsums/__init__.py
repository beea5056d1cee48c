"""Nearsums: numbers in a row whose neighbours come to told sums."""
