"""The longest part rows of a plan: how long they are, and the first of them."""

from nearsums.plans import check_plan
from nearsums.steps import Steps, all_places, numbers_at


class Reach(Steps):
    def __init__(self, plan):
        Steps.__init__(self, plan, all_places(plan))
        # By a set of numbers still free and the end they are laid behind, so that no part row reckons it anew.
        self.known = {}

    def most(self, left, end):
        key = (left, end)
        if key not in self.known:
            self.known[key] = max([self.most_by(left, place) for place in self.steps(left, end)], default=0)
        return self.known[key]

    def most_by(self, left, place):
        return 1 + self.most(left - (1 << place), place)

    def most_of_all(self):
        return self.most(self.whole, self.ahead)

    def longest_step(self, left, end):
        wanted = self.most(left, end)
        return [place for place in self.steps(left, end) if self.most_by(left, place) == wanted][0]

    def longest_places(self):
        places = []
        left = self.whole
        end = self.ahead
        while self.most(left, end) > 0:
            end = self.longest_step(left, end)
            places.append(end)
            left = left - (1 << end)
        return places


def greatest_length(plan):
    check_plan(plan)
    return Reach(plan).most_of_all()


def longest_part(plan):
    check_plan(plan)
    return numbers_at(plan, Reach(plan).longest_places())
