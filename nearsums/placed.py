"""Rows and rings of a plan: what is one, and the first of each."""

from nearsums.plans import add_up, check_plan, is_whole

FEWEST_IN_RING = 3


def are_neighbours(plan, numbers):
    return all([add_up(plan, one, other) for one, other in zip(numbers, numbers[1:])])


def holds_all(plan, thing):
    # Kinds are asked first: True is like 1 in a comparison, and other things need not bear sorting.
    if not isinstance(thing, list) or not all([is_whole(number) for number in thing]):
        return False
    return sorted(thing) == plan[0]


def is_row(plan, thing):
    check_plan(plan)
    return holds_all(plan, thing) and are_neighbours(plan, thing)


def is_ring(plan, thing):
    if not is_row(plan, thing) or len(thing) < FEWEST_IN_RING:
        return False
    return add_up(plan, thing[-1], thing[0])


def near_places(plan, number):
    return [place for place, other in enumerate(plan[0]) if add_up(plan, number, other)]


class Search:
    # A number is known by its place in the plan, a set of numbers by a whole number with a bit for each place.

    def __init__(self, plan, last_places):
        self.near = [near_places(plan, number) for number in plan[0]]
        self.last_places = list(last_places)
        # By a set still to be laid and the end it is laid behind, so that no row reckons it anew.
        self.onward = {}

    def can_end(self, left, end):
        if left == 0:
            return end in self.last_places
        key = (left, end)
        if key not in self.onward:
            self.onward[key] = self.first_step(left, end)
        return self.onward[key] is not None

    def first_step(self, left, end):
        for place in self.near[end]:
            bit = 1 << place
            if left & bit and self.can_end(left - bit, place):
                return place
        return None

    def places_from(self, start):
        left = (1 << len(self.near)) - 1 - (1 << start)
        if not self.can_end(left, start):
            return None
        places = [start]
        while left:
            place = self.onward[(left, places[-1])]
            places.append(place)
            left = left - (1 << place)
        return places


def first_from(plan, starts, last_places):
    search = Search(plan, last_places)
    for start in starts:
        places = search.places_from(start)
        if places is not None:
            return [plan[0][place] for place in places]
    return None


def first_row(plan):
    check_plan(plan)
    everywhere = list(range(len(plan[0])))
    return first_from(plan, everywhere, everywhere)


def first_ring(plan):
    check_plan(plan)
    if len(plan[0]) < FEWEST_IN_RING:
        return None
    # A ring can be begun at any of its numbers, so the first one begins at the least.
    return first_from(plan, [0], near_places(plan, plan[0][0]))
