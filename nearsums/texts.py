"""Plans written as texts, and read back."""

from nearsums.errors import NoText
from nearsums.plans import check_plan, is_plan

FIGURES = "0123456789"


def is_written_number(word):
    if word == "" or not all([sign in FIGURES for sign in word]):
        return False
    return word == "0" or not word.startswith("0")


def with_blanks(numbers):
    return " ".join([str(number) for number in numbers])


def show_plan(plan):
    check_plan(plan)
    return with_blanks(plan[0]) + ":" + "".join([" " + str(number) for number in plan[1]])


def numbers_in(words):
    if not all([is_written_number(word) for word in words]):
        raise NoText("this is no row of numbers")
    return [int(word) for word in words]


def sum_words(text):
    if text == "":
        return []
    if not text.startswith(" "):
        raise NoText("a blank stands ahead of each sum")
    return text[1:].split(" ")


def read_plan(text):
    if not isinstance(text, str) or ":" not in text:
        raise NoText("this writes no plan")
    halves = text.split(":", 1)
    plan = (numbers_in(halves[0].split(" ")), numbers_in(sum_words(halves[1])))
    if not is_plan(plan):
        raise NoText("these numbers and sums are no plan")
    return plan
