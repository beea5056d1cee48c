"""Cuts of a plan: the parts that are left, and what they show."""

from nearsums.errors import NoCut
from nearsums.placed import FEWEST_IN_RING
from nearsums.plans import add_up, check_plan, is_rising_list

MOST_IN_SHORT_CUT = 3


def is_cut(plan, thing):
    if not is_rising_list(thing, 0) or len(thing) >= len(plan[0]):
        return False
    return all([number in plan[0] for number in thing])


def belongs_to(plan, part, number):
    return number in part or any([add_up(plan, one, number) for one in part])


def widened(plan, part, left):
    return [number for number in left if belongs_to(plan, part, number)]


def part_with(plan, number, left):
    part = [number]
    wider = widened(plan, part, left)
    while wider != part:
        part = wider
        wider = widened(plan, part, left)
    return part


def parts_behind(plan, cut):
    left = [number for number in plan[0] if number not in cut]
    parts = []
    while left:
        part = part_with(plan, left[0], left)
        parts.append(part)
        left = [number for number in left if number not in part]
    return parts


def parts_left(plan, cut):
    check_plan(plan)
    if not is_cut(plan, cut):
        raise NoCut("this is no cut of the plan")
    return parts_behind(plan, cut)


def shows_no_row(plan, thing):
    check_plan(plan)
    return is_cut(plan, thing) and len(parts_behind(plan, thing)) >= len(thing) + 2


def shows_no_ring(plan, thing):
    check_plan(plan)
    if not is_cut(plan, thing):
        return False
    if len(plan[0]) < FEWEST_IN_RING:
        return True
    # A ring is one part, with one number taken away still one, and with each further one at most one part more.
    return len(parts_behind(plan, thing)) > max(len(thing), 1)


def rising_lists(numbers, size):
    if size == 0:
        return [[]]
    found = []
    for place, number in enumerate(numbers):
        found.extend([[number] + rest for rest in rising_lists(numbers[place + 1:], size - 1)])
    return found


def short_cut(plan):
    check_plan(plan)
    for size in range(MOST_IN_SHORT_CUT + 1):
        for cut in rising_lists(plan[0], size):
            if shows_no_row(plan, cut):
                return cut
    return None
