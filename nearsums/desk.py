"""A desk: plans by names, that are put, changed and asked by rows of words."""

from nearsums.counted import count_rings, count_rows, row_by
from nearsums.cuts import short_cut
from nearsums.errors import NoName, NoSaying
from nearsums.keeper import Keeper
from nearsums.longest import longest_part
from nearsums.placed import first_ring, first_row
from nearsums.plans import plan_of
from nearsums.texts import is_written_number, read_plan, show_plan, with_blanks

SMALL_LETTERS = "abcdefghijklmnopqrstuvwxyz"
MOST_LETTERS = 8
MOST_FIGURES = 9
DONE = "ok"
NONE_THERE = "none"
NONE_TAKEN = "all"


def is_small_word(word):
    return word != "" and all([letter in SMALL_LETTERS for letter in word])


def is_name(word):
    return is_small_word(word) and len(word) <= MOST_LETTERS


def is_short_number(word):
    return is_written_number(word) and len(word) <= MOST_FIGURES


def is_any_text(word):
    # What a text must be is asked behind the form of the row, and refused otherwise.
    return True


def shown_or_none(numbers):
    return NONE_THERE if numbers is None else with_blanks(numbers)


def tell_rows(plan):
    return str(count_rows(plan))


def tell_rings(plan):
    return str(count_rings(plan))


def tell_row(plan):
    return shown_or_none(first_row(plan))


def tell_ring(plan):
    return shown_or_none(first_ring(plan))


def tell_longest(plan):
    return with_blanks(longest_part(plan))


def tell_cut(plan):
    cut = short_cut(plan)
    return NONE_TAKEN if cut == [] else shown_or_none(cut)


def tell_writing(plan):
    return show_plan(plan)


def number_comes(keeper, number):
    keeper.come(number)
    return DONE


def number_goes(keeper, number):
    keeper.go(number)
    return DONE


def sum_comes_to(keeper, number):
    keeper.sum_comes(number)
    return DONE


def sum_goes_from(keeper, number):
    keeper.sum_goes(number)
    return DONE


def tell_nth(keeper, number):
    return with_blanks(row_by(keeper.plan(), number))


ASKED = {"rows": tell_rows, "rings": tell_rings, "row": tell_row, "ring": tell_ring, "longest": tell_longest,
         "cut": tell_cut, "show": tell_writing}
SAID_WITH_NUMBER = {"come": number_comes, "go": number_goes, "sum": sum_comes_to, "unsum": sum_goes_from,
                    "nth": tell_nth}
OTHER_FORMS = {"plan": (is_name, is_any_text), "kind": (is_name, is_small_word, is_short_number), "drop": (is_name,)}


def forms_behind(verb):
    if verb in ASKED:
        return (is_name,)
    if verb in SAID_WITH_NUMBER:
        return (is_name, is_short_number)
    return OTHER_FORMS.get(verb)


def words_of(row):
    # A plan's text has blanks of its own and stays whole.
    return row.split(" ", 2) if row.startswith("plan ") else row.split(" ")


def is_saying(words):
    forms = forms_behind(words[0])
    if forms is None or len(words) != 1 + len(forms):
        return False
    return all([form(word) for form, word in zip(forms, words[1:])])


def said_words(row):
    if not isinstance(row, str) or not is_saying(words_of(row)):
        raise NoSaying("this is no row that can be said")
    return words_of(row)


class Desk:
    def __init__(self):
        self.keepers = {}

    def names(self):
        return sorted(self.keepers)

    def keeper_by(self, name):
        if name not in self.keepers:
            raise NoName("no plan stands by this name")
        return self.keepers[name]

    def put(self, name, plan):
        self.keepers[name] = Keeper(plan)
        return DONE

    def drop(self, name):
        self.keepers.pop(name)
        return DONE

    def say(self, row):
        words = said_words(row)
        verb = words[0]
        name = words[1]
        if verb == "plan":
            return self.put(name, read_plan(words[2]))
        if verb == "kind":
            return self.put(name, plan_of(words[2], int(words[3])))
        keeper = self.keeper_by(name)
        if verb == "drop":
            return self.drop(name)
        if verb in SAID_WITH_NUMBER:
            return SAID_WITH_NUMBER[verb](keeper, int(words[2]))
        return ASKED[verb](keeper.plan())
