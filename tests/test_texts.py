import copy
import inspect
import itertools
import unittest

from by_trying import KINDS, nearly_plans, plans_to_try
from nearsums.errors import NoPlan, NoText
from nearsums.plans import is_plan, plan_of
from nearsums.texts import read_plan, show_plan
from odd_things import check_refused, odd_things

NINES = 10 ** 25 - 1
WRITTEN = {"1 2 3: 3 5": ([1, 2, 3], [3, 5]), "7:": ([7], []), "0:": ([0], []), "0: 0": ([0], [0]),
           "0 1: 0 1": ([0, 1], [0, 1]), "5 6 17:": ([5, 6, 17], []), "10 20: 30 100": ([10, 20], [30, 100]),
           "0 1 2 3 4 5 6 7 8 9: 10 11 12 13 14 15 16 17 18 19": (list(range(10)), list(range(10, 20))),
           str(NINES) + ": " + str(NINES): ([NINES], [NINES])}


def written_by_hand(plan):
    text = ""
    for number in plan[0]:
        text += str(number) + " "
    text = text[:-1] + ":"
    for number in plan[1]:
        text += " " + str(number)
    return text


class TestShownAndRead(unittest.TestCase):
    def test_known_writings(self):
        for text, plan in WRITTEN.items():
            self.assertEqual(show_plan(plan), text)
            self.assertEqual(read_plan(text), plan)

    def test_many_plans_are_read_back(self):
        for plan in plans_to_try():
            text = show_plan(plan)
            self.assertEqual(text, written_by_hand(plan))
            self.assertEqual(read_plan(text), (plan[0], plan[1]))
        for kind, n in itertools.product(KINDS, range(1, 11)):
            self.assertEqual(read_plan(show_plan(plan_of(kind, n))), plan_of(kind, n))

    def test_numbers_of_many_figures(self):
        for figures in [26, 27, 100, 277]:
            number = 10 ** figures - 7
            text = "5 " + str(number) + ": " + str(number + 5)
            self.assertLessEqual(len(text), 560)
            self.assertEqual(read_plan(text), ([5, number], [number + 5]))
            self.assertEqual(show_plan(read_plan(text)), text)
        self.assertEqual(read_plan("9" * 559 + ":"), ([10 ** 559 - 1], []))

    def test_kinds_of_what_is_told(self):
        self.assertIs(type(show_plan(([1, 2], [3]))), str)
        for text in WRITTEN:
            told = read_plan(text)
            self.assertIs(is_plan(told), True)
            self.assertIs(type(told), tuple)
            self.assertEqual([type(part) for part in told], [list, list])
            self.assertEqual({type(number) for part in told for number in part}, {int})


class TestRefused(unittest.TestCase):
    WRONG = ["", ":", " ", " :", ": ", "1", "1 2 3", "1 2 3 3 5", ": 3", ": 3 5", " : 3",
             " 1 2: 3", "1 2 : 3", "1  2: 3", "1 2:3", "1 2:  3", "1 2: 3 ", "1 2: ", "7: ", "7:  ", " 7:", "7 :",
             "1 2: 3  5", "1 2:3 5", "1 2 3:: 3", "1 2 3: 3: 5", "1: 2: 3", "1:2:3", "7::", "::", "1 2 3: 3 5:",
             "01 2: 3", "1 02: 3", "1 2: 03", "00:", "00: 0", "0: 00", "1 2: 3 05", "000 1: 1", "0 01: 1",
             "2 1: 3", "1 1: 3", "1 2 2: 3", "1 2: 3 3", "1 2: 5 3", "3 1 2: 3", "0 0:", "10 9:", "1: 10 9",
             "1 2 3 4 5 6 7 8 9 10 11: 3", "1: 1 2 3 4 5 6 7 8 9 10 11", "0 1 2 3 4 5 6 7 8 9 10:",
             "-1: 3", "1: -3", "-1 2: 1", "+1: 3", "1: +3", "1.0: 3", "1: 3.0", "1_0: 3", "1: 1_0", "1,2: 3",
             "1 2; 3", "1 2: 3;", "a: 3", "1: b", "one: 3", "1 x 2: 3", "0x1: 3", "1e3: 3", "1L:", "(1): 3",
             "1\t2: 3", "1 2:\t3", "1 2: 3\t", "\t1 2: 3", "1 2: 3\n", "\n1 2: 3", "1 2\n: 3", "1 2:\n3", "1\n2: 3",
             "7:\n", "7:\t", "1 2: 3\n5", "([1, 2], [3])", "[1, 2]: [3]", "squares", "1 2 3: 3 5 ok", "True:", "None",
             "1 2: True", "none", "1 2: None", "'1': 3", "~", "!:", "1: ~"]

    def test_wrong_texts(self):
        for text in self.WRONG:
            with self.subTest(text=text):
                check_refused(self, NoText, read_plan, text)

    def test_of_anything(self):
        for place, thing in enumerate(odd_things() + nearly_plans() + [7, ["7:"], ("7:",), b"7:", {"7:": "7:"}]):
            with self.subTest(place=place):
                if isinstance(thing, str) and thing in WRITTEN:
                    self.assertEqual(read_plan(thing), ([1, 2, 3], [3, 5]))
                else:
                    check_refused(self, NoText, read_plan, thing)

    def test_what_is_read_is_written_so(self):
        # Whatever is done to a writing at one place, it is read only where it is the writing of what is read.
        signs = " :0129-\n\ta"
        read = 0
        for text in WRITTEN:
            for place in range(len(text) + 1):
                changed = [text[:place] + text[place + 1:], text[:place]]
                changed += [text[:place] + sign + text[place:] for sign in signs]
                changed += [text[:place] + sign + text[place + 1:] for sign in signs]
                for other in changed:
                    try:
                        told = read_plan(other)
                    except NoText:
                        self.assertFalse(self.writes_a_plan(other), other)
                    else:
                        self.assertTrue(is_plan(told) and written_by_hand(told) == other, other)
                        read += 1
        self.assertGreater(read, 500)

    def writes_a_plan(self, text):
        """Looked at another way round: the numbers that can be found in the text, written anew, give it again."""
        parts = text.split(":")
        words = [[word for word in part.split() if word.isdigit()] for part in parts]
        found = tuple([int(word) for word in part] for part in words)
        return is_plan(found) and written_by_hand(found) == text

    def test_no_plan_of_anything(self):
        for place, thing in enumerate(odd_things() + nearly_plans()):
            with self.subTest(place=place):
                check_refused(self, NoPlan, show_plan, thing)


class TestNothingShared(unittest.TestCase):
    def test_what_is_handed_in_stays(self):
        plan = ([1, 2, 3], [3, 5])
        whole = copy.deepcopy(plan)
        show_plan(plan)
        self.assertEqual(plan, whole)

    def test_told_lists_are_the_askers_own(self):
        for text in WRITTEN:
            told = read_plan(text)
            again = read_plan(text)
            wanted = copy.deepcopy(again)
            lists = [told[0], told[1], again[0], again[1]]
            self.assertEqual(len({id(one) for one in lists}), 4)
            told[0].clear()
            told[1].append(99)
            self.assertEqual([again, read_plan(text)], [wanted, wanted])

    def test_a_plan_changed_by_the_asker_is_seen_as_it_is(self):
        plan = ([1, 2], [])
        self.assertEqual(show_plan(plan), "1 2:")
        plan[1].append(3)
        self.assertEqual(show_plan(plan), "1 2: 3")


class TestInterface(unittest.TestCase):
    def test_arguments(self):
        self.assertEqual(list(inspect.signature(show_plan).parameters), ["plan"])
        self.assertEqual(list(inspect.signature(read_plan).parameters), ["text"])


if __name__ == "__main__":
    unittest.main()
