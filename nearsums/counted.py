"""Rows and rings counted without going through them, and rows by their numbers and back."""

from nearsums.errors import NoPlace, NoRow
from nearsums.placed import FEWEST_IN_RING, is_row
from nearsums.plans import check_number, check_plan, is_whole
from nearsums.steps import Steps, all_places, near_places, numbers_at


class Tally(Steps):
    def __init__(self, plan, first_places, last_places):
        Steps.__init__(self, plan, first_places)
        self.last_places = list(last_places)
        # By a set still to be laid and the end it is laid behind, so that no row reckons it anew.
        self.known = {}

    def ways(self, left, end):
        if left == 0:
            return 1 if end in self.last_places else 0
        key = (left, end)
        if key not in self.known:
            self.known[key] = sum([self.ways_by(left, place) for place in self.steps(left, end)])
        return self.known[key]

    def ways_by(self, left, place):
        return self.ways(left - (1 << place), place)

    def all_ways(self):
        return self.ways(self.whole, self.ahead)

    def ways_ahead(self, left, end, place):
        return sum([self.ways_by(left, other) for other in self.steps(left, end) if other < place])

    def step_by(self, left, end, number):
        # Ways by the places ahead of the right one have the lower numbers; a place without a way is never the last.
        return [place for place in self.steps(left, end) if self.ways_ahead(left, end, place) <= number][-1]

    def places_by(self, number):
        places = []
        left = self.whole
        end = self.ahead
        while left:
            place = self.step_by(left, end, number)
            number = number - self.ways_ahead(left, end, place)
            places.append(place)
            left = left - (1 << place)
            end = place
        return places

    def number_at(self, places):
        number = 0
        left = self.whole
        end = self.ahead
        for place in places:
            number = number + self.ways_ahead(left, end, place)
            left = left - (1 << place)
            end = place
        return number


def tally_of_rows(plan):
    return Tally(plan, all_places(plan), all_places(plan))


def count_rows(plan):
    check_plan(plan)
    return tally_of_rows(plan).all_ways()


def count_rings(plan):
    check_plan(plan)
    if len(plan[0]) < FEWEST_IN_RING:
        return 0
    # A ring can be begun at any of its numbers, so as many begin with each number as with the least.
    return len(plan[0]) * Tally(plan, [0], near_places(plan, plan[0][0])).all_ways()


def count_between(plan, one, other):
    check_plan(plan)
    check_number(plan, one)
    check_number(plan, other)
    return Tally(plan, [plan[0].index(one)], [plan[0].index(other)]).all_ways()


def row_by(plan, number):
    check_plan(plan)
    tally = tally_of_rows(plan)
    if not is_whole(number) or not 0 <= number < tally.all_ways():
        raise NoPlace("no row has this number")
    return numbers_at(plan, tally.places_by(number))


def number_of(plan, thing):
    if not is_row(plan, thing):
        raise NoRow("this is no row of the plan")
    return tally_of_rows(plan).number_at([plan[0].index(number) for number in thing])
