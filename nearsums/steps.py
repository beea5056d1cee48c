"""The steps from number to number of a plan, for all that is reckoned of sets of numbers and their ends."""

from nearsums.plans import add_up


def all_places(plan):
    return list(range(len(plan[0])))


def near_places(plan, number):
    return [place for place, other in enumerate(plan[0]) if add_up(plan, number, other)]


def numbers_at(plan, places):
    return [plan[0][place] for place in places]


class Steps:
    # A number is known by its place in the plan, a set of numbers by a whole number with a bit for each place.

    def __init__(self, plan, first_places):
        # One place more than the plan has stands ahead of every row, so that the first step is like all others.
        self.ahead = len(plan[0])
        self.near = [near_places(plan, number) for number in plan[0]] + [list(first_places)]
        self.whole = (1 << self.ahead) - 1

    def steps(self, left, end):
        return [place for place in self.near[end] if left & (1 << place)]
