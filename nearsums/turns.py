"""Part rows of a plan, and what comes of one by turning its end."""

from nearsums.errors import NoPart, NoPlace
from nearsums.placed import are_neighbours
from nearsums.plans import add_up, check_plan, is_list_of_wholes, is_whole


def is_part(plan, thing):
    if not is_list_of_wholes(thing) or len(thing) == 0:
        return False
    return sorted(thing) == [number for number in plan[0] if number in thing] and are_neighbours(plan, thing)


def check_part(plan, part):
    check_plan(plan)
    if not is_part(plan, part):
        raise NoPart("this is no part row of the plan")


def places_to_turn(plan, part):
    # Behind the place two numbers at least are put the other way round, so the end becomes another.
    return [place for place in range(len(part) - 2) if add_up(plan, part[place], part[-1])]


def turned_behind(part, place):
    return part[:place + 1] + list(reversed(part[place + 1:]))


def turn_places(plan, part):
    check_part(plan, part)
    return places_to_turn(plan, part)


def turned_at(plan, part, place):
    check_part(plan, part)
    if not is_whole(place) or place not in places_to_turn(plan, part):
        raise NoPlace("the end is not turned at this place")
    return turned_behind(part, place)


def all_ends(plan, part):
    check_part(plan, part)
    # Two part rows with one end can be turned at unlike places, so each is followed, not each end alone.
    seen = {tuple(part): True}
    waiting = [part]
    while waiting:
        here = waiting.pop()
        for place in places_to_turn(plan, here):
            turned = turned_behind(here, place)
            if tuple(turned) not in seen:
                seen[tuple(turned)] = True
                waiting.append(turned)
    return sorted(set([numbers[-1] for numbers in seen]))
