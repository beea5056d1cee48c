"""Rows and rings of a plan: what is one, and the first of each."""

from nearsums.plans import add_up, check_plan, is_list_of_wholes
from nearsums.steps import Steps, all_places, near_places, numbers_at

FEWEST_IN_RING = 3


def are_neighbours(plan, numbers):
    return all([add_up(plan, one, other) for one, other in zip(numbers, numbers[1:])])


def holds_all(plan, thing):
    # Kinds are asked first: True is like 1 in a comparison, and other things need not bear sorting.
    return is_list_of_wholes(thing) and sorted(thing) == plan[0]


def is_row(plan, thing):
    check_plan(plan)
    return holds_all(plan, thing) and are_neighbours(plan, thing)


def is_ring(plan, thing):
    if not is_row(plan, thing) or len(thing) < FEWEST_IN_RING:
        return False
    return add_up(plan, thing[-1], thing[0])


class Search(Steps):
    def __init__(self, plan, first_places, last_places):
        Steps.__init__(self, plan, first_places)
        self.last_places = list(last_places)
        # By a set still to be laid and the end it is laid behind, so that no row reckons it anew.
        self.onward = {}

    def can_end(self, left, end):
        if left == 0:
            return end in self.last_places
        key = (left, end)
        if key not in self.onward:
            self.onward[key] = self.first_step(left, end)
        return self.onward[key] is not None

    def first_step(self, left, end):
        for place in self.steps(left, end):
            if self.can_end(left - (1 << place), place):
                return place
        return None

    def found_places(self):
        places = []
        left = self.whole
        end = self.ahead
        while left:
            end = self.onward[(left, end)]
            places.append(end)
            left = left - (1 << end)
        return places


def first_from(plan, first_places, last_places):
    search = Search(plan, first_places, last_places)
    if not search.can_end(search.whole, search.ahead):
        return None
    return numbers_at(plan, search.found_places())


def first_row(plan):
    check_plan(plan)
    return first_from(plan, all_places(plan), all_places(plan))


def first_ring(plan):
    check_plan(plan)
    if len(plan[0]) < FEWEST_IN_RING:
        return None
    # A ring can be begun at any of its numbers, so the first one begins at the least.
    return first_from(plan, [0], near_places(plan, plan[0][0]))
