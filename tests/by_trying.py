"""Plans, what is found of them by trying everything, and what an answer takes."""

import itertools
import sys

KINDS = ["squares", "threes", "primes", "powers"]


def neighbours_fit(plan, numbers):
    return all(one + other in plan[1] for one, other in zip(numbers, numbers[1:]))


def rows_by_trying(plan):
    return [list(order) for order in itertools.permutations(plan[0]) if neighbours_fit(plan, order)]


def rings_by_trying(plan, rows):
    return [row for row in rows if len(row) > 2 and row[-1] + row[0] in plan[1]]


def first_longest_by_trying(plan):
    for size in range(len(plan[0]), 0, -1):
        for order in itertools.permutations(plan[0], size):
            if neighbours_fit(plan, order):
                return list(order)
    return None


def parts_by_trying(plan, cut):
    parts = []
    for number in plan[0]:
        if number not in cut:
            near = [part for part in parts if any(number + other in plan[1] for other in part)]
            parts = [part for part in parts if part not in near] + [sorted(sum(near, [number]))]
    return sorted(parts)


def subsets(things):
    for size in range(len(things) + 1):
        for chosen in itertools.combinations(things, size):
            yield list(chosen)


def small_plans():
    for numbers in [[0], [4], [0, 1], [1, 2], [0, 1, 2], [1, 2, 3], [2, 5, 9], [0, 1, 2, 3], [1, 2, 3, 4],
                    [1, 3, 4, 9], [0, 1, 2, 3, 4], [1, 2, 3, 4, 5]]:
        found = sorted({one + other for one in numbers for other in numbers})
        for sums in subsets(found):
            if len(sums) <= 10:
                yield numbers, sums


def broader_plans():
    for numbers in [[0, 1, 2, 3, 4, 5], [1, 2, 3, 4, 5, 6], [0, 1, 3, 4, 6, 9]]:
        for sums in itertools.combinations(range(2, 11), 4):
            yield numbers, list(sums)
    for sums in [[4, 7, 9, 12], [3, 5, 8, 9, 11, 13], [4, 8, 9, 10, 11], [7, 8], [8, 9], [3, 8, 9, 13]]:
        yield [1, 2, 3, 4, 5, 6, 7], sums


def plans_to_try():
    return itertools.chain(small_plans(), broader_plans())


def nearly_plans():
    """Things that miss being a plan by little."""
    return [([2, 1], [3]), ([1, 1], [3]), ([1, 2], [3, 3]), ([1, 2], [4, 3]), ([1, 2], (3,)), ((1, 2), [3]),
            [[1, 2], [3]], (list(range(11)), [3]), ([1, 2], list(range(11))), ([-1, 1], [0]), ([1, 2], [-1, 3]),
            ([True, 2], [3]), ([1, 2], [True, 3]), ([], [3]), ([], [])]


def mixed_numbers():
    """Whole numbers without end, well mixed and the same each time."""
    number = 1
    while True:
        number = (number * 1103515245 + 12345) % 2 ** 31
        yield number // 2 ** 16


def ways_by_trying(plan, row):
    """How many part rows begin with this one."""
    onward = [number for number in plan[0] if number not in row and number + row[-1] in plan[1]]
    return 1 + sum(ways_by_trying(plan, row + [number]) for number in onward)


def calls_of(asked, *arguments):
    """How many calls of functions written in Python the answer takes, and the answer."""
    calls = []

    def note(frame, event, extra):
        if event == "call":
            calls.append(1)

    before = sys.getprofile()
    sys.setprofile(note)
    try:
        told = asked(*arguments)
    finally:
        sys.setprofile(before)
    return len(calls), told
