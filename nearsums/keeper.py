"""A Keeper: a plan whose numbers and sums come and go."""

from nearsums.counted import count_rows
from nearsums.errors import NoNumber, NoSum, TooMany
from nearsums.placed import first_row
from nearsums.plans import MOST, check_plan, is_whole


def check_room(numbers):
    if len(numbers) >= MOST:
        raise TooMany("there are as many as there may be")


def stands_in(numbers, thing):
    # The kind is asked first: True stands in a list where 1 does.
    return is_whole(thing) and thing in numbers


def is_new(numbers, thing):
    return is_whole(thing) and thing >= 0 and thing not in numbers


def with_one(numbers, number):
    return sorted(numbers + [number])


def without_one(numbers, number):
    return [other for other in numbers if other != number]


class Keeper:
    def __init__(self, plan):
        check_plan(plan)
        self.numbers = list(plan[0])
        self.sums = list(plan[1])

    def plan(self):
        return (list(self.numbers), list(self.sums))

    def count(self):
        return count_rows(self.plan())

    def first(self):
        return first_row(self.plan())

    def change_to(self, numbers, sums):
        before = self.count()
        self.numbers = numbers
        self.sums = sums
        return (before, self.count())

    def come(self, number):
        check_room(self.numbers)
        if not is_new(self.numbers, number):
            raise NoNumber("this is no number that can come")
        return self.change_to(with_one(self.numbers, number), self.sums)

    def go(self, number):
        if not stands_in(self.numbers, number) or len(self.numbers) == 1:
            raise NoNumber("this is no number that can go")
        return self.change_to(without_one(self.numbers, number), self.sums)

    def sum_comes(self, number):
        check_room(self.sums)
        if not is_new(self.sums, number):
            raise NoSum("this is no sum that can come")
        return self.change_to(self.numbers, with_one(self.sums, number))

    def sum_goes(self, number):
        if not stands_in(self.sums, number):
            raise NoSum("this is no sum that can go")
        return self.change_to(self.numbers, without_one(self.sums, number))
