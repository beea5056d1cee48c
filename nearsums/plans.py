"""Plans of numbers and sums, the partners within them, and the plans of the four kinds of sums."""

from nearsums.errors import NoKind, NoNumber, NoPlan

MOST = 10
LEAST_SUM = 3


def is_whole(thing):
    return isinstance(thing, int) and not isinstance(thing, bool)


def is_list_of_wholes(thing):
    return isinstance(thing, list) and all([is_whole(number) for number in thing])


def is_rising_list(thing, fewest):
    if not isinstance(thing, list) or not fewest <= len(thing) <= MOST:
        return False
    below = -1
    for number in thing:
        # The kind is asked first: a thing of another kind need not bear a comparison.
        if not is_whole(number) or number <= below:
            return False
        below = number
    return True


def is_plan(thing):
    if not isinstance(thing, tuple) or len(thing) != 2:
        return False
    return is_rising_list(thing[0], 1) and is_rising_list(thing[1], 0)


def check_plan(plan):
    if not is_plan(plan):
        raise NoPlan("this is no plan")


def check_number(plan, number):
    # The kind is asked first: True stands in a list where 1 does.
    if not is_whole(number) or number not in plan[0]:
        raise NoNumber("this is no number of the plan")


def add_up(plan, one, other):
    return one != other and one + other in plan[1]


def partners_of(plan, number):
    check_plan(plan)
    check_number(plan, number)
    return [other for other in plan[0] if add_up(plan, number, other)]


def are_partners(plan, one, other):
    check_plan(plan)
    check_number(plan, one)
    check_number(plan, other)
    return add_up(plan, one, other)


def squares_to(top):
    return [root * root for root in range(top + 1) if root * root <= top]


def threes_to(top):
    found = []
    value = 0
    step = 1
    while value <= top:
        found.append(value)
        value = value + step
        step = step + 1
    return found


def is_prime(number):
    return number > 1 and all([number % divisor != 0 for divisor in range(2, number)])


def primes_to(top):
    return [number for number in range(top + 1) if is_prime(number)]


def powers_to(top):
    found = []
    value = 1
    while value <= top:
        found.append(value)
        value = value * 2
    return found


KINDS = {"squares": squares_to, "threes": threes_to, "primes": primes_to, "powers": powers_to}


def check_kind(kind):
    # Only a text is looked up: other things need not bear it.
    if not isinstance(kind, str) or kind not in KINDS:
        raise NoKind("this is no kind of sums")


def plan_of(kind, n):
    check_kind(kind)
    if not is_whole(n) or not 1 <= n <= MOST:
        raise NoNumber("this is no length of a plan")
    sums = [value for value in KINDS[kind](2 * n - 1) if value >= LEAST_SUM]
    return (list(range(1, n + 1)), sums)
