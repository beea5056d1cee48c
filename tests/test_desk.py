import inspect
import itertools
import unittest

from by_trying import KINDS, plans_to_try
from nearsums.counted import count_rings, count_rows, row_by
from nearsums.cuts import short_cut
from nearsums.desk import Desk
from nearsums.errors import NoKind, NoName, NoNumber, NoPlace, NoSaying, NoSum, NoText, TooMany
from nearsums.longest import longest_part
from nearsums.placed import first_ring, first_row
from nearsums.plans import plan_of
from nearsums.texts import show_plan
from odd_things import check_refused, odd_things

ASKED = ["rows", "rings", "row", "ring", "longest", "cut", "show"]
WITH_NUMBER = ["come", "go", "sum", "unsum", "nth"]
VERBS = ASKED + WITH_NUMBER + ["plan", "kind", "drop"]
TEN = "1 2 3 4 5 6 7 8 9 10"


def desk_with(**writings):
    desk = Desk()
    for name, text in writings.items():
        desk.say("plan " + name + " " + text)
    return desk


def all_told(desk):
    return [desk.names()] + [desk.say(verb + " " + name) for name in desk.names() for verb in ASKED]


def in_words(numbers):
    return "none" if numbers is None else " ".join(str(number) for number in numbers)


class TestRows(unittest.TestCase):
    def check(self, desk, wanted):
        for row, told in wanted:
            with self.subTest(row=row):
                self.assertEqual(desk.say(row), told)

    def test_plan(self):
        desk = Desk()
        self.check(desk, [("plan a 1 2 3: 3 5", "ok"), ("show a", "1 2 3: 3 5"), ("plan b 7:", "ok"), ("show b", "7:"),
                          ("plan a 0: 0", "ok"), ("show a", "0: 0"), ("show b", "7:"), ("plan abcdefgh 1:", "ok"),
                          ("show abcdefgh", "1:"), ("plan plan 2:", "ok"), ("show plan", "2:"), ("plan z 3:", "ok")])
        self.assertEqual(desk.names(), ["a", "abcdefgh", "b", "plan", "z"])

    def test_kind(self):
        desk = Desk()
        self.check(desk, [("kind a squares 8", "ok"), ("show a", "1 2 3 4 5 6 7 8: 4 9"), ("kind a threes 3", "ok"),
                          ("show a", "1 2 3: 3"), ("kind a primes 4", "ok"), ("show a", "1 2 3 4: 3 5 7"),
                          ("kind b powers 10", "ok"), ("show b", TEN + ": 4 8 16"), ("kind b squares 1", "ok"),
                          ("show b", "1:"), ("show a", "1 2 3 4: 3 5 7")])

    def test_each_kind_and_length(self):
        desk = Desk()
        for kind, n in itertools.product(KINDS, range(1, 11)):
            self.assertEqual(desk.say("kind " + kind + " " + kind + " " + str(n)), "ok")
            self.assertEqual(desk.say("show " + kind), show_plan(plan_of(kind, n)))
        self.assertEqual(desk.names(), sorted(KINDS))

    def test_come_and_go(self):
        desk = desk_with(a="2 4: 5 6 7")
        self.check(desk, [("rows a", "2"), ("come a 3", "ok"), ("rows a", "6"), ("show a", "2 3 4: 5 6 7"),
                          ("come a 0", "ok"), ("show a", "0 2 3 4: 5 6 7"), ("go a 0", "ok"), ("go a 4", "ok"),
                          ("show a", "2 3: 5 6 7"), ("come a 999999999", "ok"), ("show a", "2 3 999999999: 5 6 7")])

    def test_sum_and_unsum(self):
        desk = desk_with(a="1 2 3: 4")
        self.check(desk, [("rows a", "0"), ("sum a 3", "ok"), ("rows a", "2"), ("show a", "1 2 3: 3 4"),
                          ("unsum a 4", "ok"), ("unsum a 3", "ok"), ("show a", "1 2 3:"), ("sum a 0", "ok"),
                          ("sum a 100000000", "ok"), ("show a", "1 2 3: 0 100000000")])

    def test_drop(self):
        desk = desk_with(a="1:", b="2:", c="3:")
        self.check(desk, [("drop b", "ok"), ("show a", "1:"), ("show c", "3:")])
        self.assertEqual(desk.names(), ["a", "c"])
        check_refused(self, NoName, desk.say, "drop b")
        check_refused(self, NoName, desk.say, "show b")
        self.check(desk, [("plan b 9: 9", "ok"), ("show b", "9: 9")])

    def test_rows_and_rings(self):
        desk = desk_with(a="1 2 3 4: 3 5 7", b="1 2 3: 3 5", c="7:", d="1 2:", e=TEN + ": 6 7 8 9 10 11 12 13 14 15")
        self.check(desk, [("rows a", "8"), ("rings a", "8"), ("row a", "1 2 3 4"), ("ring a", "1 2 3 4"),
                          ("rows b", "2"), ("rings b", "0"), ("row b", "1 2 3"), ("ring b", "none"),
                          ("rows c", "1"), ("rings c", "0"), ("row c", "7"), ("ring c", "none"),
                          ("rows d", "0"), ("rings d", "0"), ("row d", "none"), ("ring d", "none"),
                          ("rows e", "311520"), ("rings e", "233440")])

    def test_longest(self):
        desk = desk_with(a="1 10 20 30: 11 21 31", b="7:", c="3 5 8:", d="1 2 3: 3 4")
        self.check(desk, [("longest a", "10 1 20"), ("longest b", "7"), ("longest c", "3"), ("longest d", "2 1 3")])

    def test_cut(self):
        desk = desk_with(a="1 10 20 30: 11 21 31", b="1 2:", c="1 2: 3", d="7:",
                         e="1 2 10 20 30 40: 11 12 21 22 31 32 41 42", f="1 2 10 20 30: 11 12 21 22 31 32")
        self.check(desk, [("cut a", "1"), ("cut b", "all"), ("cut c", "none"), ("cut d", "none"), ("cut e", "1 2"),
                          ("cut f", "none")])

    def test_nth(self):
        desk = desk_with(a="1 2 3 4: 3 5 7", b="0:")
        for number in range(8):
            row = row_by(([1, 2, 3, 4], [3, 5, 7]), number)
            self.assertEqual(desk.say("nth a " + str(number)), in_words(row))
        self.check(desk, [("nth a 0", "1 2 3 4"), ("nth a 7", "4 3 2 1"), ("nth b 0", "0")])

    def test_as_the_stages_tell(self):
        for plan in itertools.islice(plans_to_try(), 0, None, 11):
            desk = desk_with(it=show_plan(plan))
            cut = short_cut(plan)
            wanted = [str(count_rows(plan)), str(count_rings(plan)), in_words(first_row(plan)),
                      in_words(first_ring(plan)), in_words(longest_part(plan)), "all" if cut == [] else in_words(cut),
                      show_plan(plan)]
            self.assertEqual([desk.say(verb + " it") for verb in ASKED], wanted)

    def test_answers_are_texts(self):
        desk = desk_with(a="1 2: 3")
        for row in ["plan b 1:", "kind b powers 3", "come b 5", "go b 5", "sum b 9", "unsum b 9", "drop b", "nth a 0"]:
            self.assertIs(type(desk.say(row)), str)
        for verb in ASKED:
            self.assertIs(type(desk.say(verb + " a")), str)

    def test_names_like_verbs(self):
        desk = Desk()
        for verb in VERBS:
            desk.say("plan " + verb + " 1 2: 3")
        self.assertEqual(desk.names(), sorted(VERBS))
        for verb, name in itertools.product(ASKED, VERBS):
            self.assertEqual(desk.say(verb + " " + name), desk.say(verb + " rows"))


class TestNames(unittest.TestCase):
    def test_order_of_letters(self):
        desk = Desk()
        self.assertEqual(desk.names(), [])
        for name in ["b", "aa", "z", "a", "ba", "ab", "abc", "zzzzzzzz", "aaaaaaaa", "b"]:
            desk.say("plan " + name + " 1:")
        self.assertEqual(desk.names(), ["a", "aa", "aaaaaaaa", "ab", "abc", "b", "ba", "z", "zzzzzzzz"])

    def test_told_names_are_the_askers_own(self):
        desk = desk_with(b="1:", a="2:")
        told = desk.names()
        self.assertIs(type(told), list)
        self.assertIsNot(told, desk.names())
        told.append("c")
        told.remove("a")
        self.assertEqual(desk.names(), ["a", "b"])
        self.assertEqual(desk.say("show a"), "2:")
        desk.say("drop a")
        self.assertEqual(told, ["b", "c"])

    def test_twenty_plans(self):
        desk = Desk()
        letters = "tsrqponmlkjihgfedcba"
        for place, letter in enumerate(letters):
            desk.say("plan " + letter + " " + str(place) + ":")
        self.assertEqual(desk.names(), sorted(letters))
        self.assertEqual([desk.say("show " + letter) for letter in letters], [str(place) + ":" for place in range(20)])


class TestNoSaying(unittest.TestCase):
    def check_none(self, row):
        with self.subTest(row=row):
            for desk in [Desk(), desk_with(a="1 2 3: 3 5", b="7:")]:
                before = all_told(desk)
                check_refused(self, NoSaying, desk.say, row)
                self.assertEqual(all_told(desk), before)

    def test_of_anything(self):
        desk = desk_with(a="1 2 3: 3 5")
        before = all_told(desk)
        for place, thing in enumerate(odd_things() + [7, ["rows a"], ("rows", "a"), ["rows", "a"], b"rows a"]):
            with self.subTest(place=place):
                check_refused(self, NoSaying, desk.say, thing)
        self.assertEqual(all_told(desk), before)

    def test_no_verb(self):
        for row in ["", " ", "a", "a a", "ok", "rows", "none", "hello a", "Rows a", "ROWS a", "rowss a", "ro a",
                    "names", "names a", "say a", "count a", "first a", "sum_comes a 3", "unplan a", "\nrows a",
                    "\trows a", ":"]:
            self.check_none(row)

    def test_too_few_and_too_many_words(self):
        for verb in ASKED + ["drop"]:
            for row in [verb, verb + " ", verb + " a a", verb + " a 1", verb + " a ", verb + "  a", " " + verb + " a",
                        verb + "\ta", verb + " a\n", verb + "a", verb + "\na", verb + " a\t", verb + " a  "]:
                self.check_none(row)
        for verb in WITH_NUMBER:
            for row in [verb, verb + " a", verb + " 1", verb + " a ", verb + " a 1 1", verb + " a 1 ", verb + " a  1",
                        verb + "  a 1", " " + verb + " a 1", verb + " 1 a", verb + " a\t1", verb + " a 1\n",
                        verb + " a 1\t", verb + "a 1", verb + " a1"]:
                self.check_none(row)
        for row in ["kind", "kind a", "kind a squares", "kind a 3", "kind squares 3", "kind a squares 3 3",
                    "kind a squares  3", "kind a  squares 3", "kind  a squares 3", "kind a squares 3 ",
                    "kind a squares ", " kind a squares 3", "kind a 3 squares", "kind a squares3",
                    "kind a\tsquares 3", "kind a squares 3\n"]:
            self.check_none(row)

    def test_plan_without_name_or_blank(self):
        for row in ["plan", "plan ", "plan  ", "plan a", "plan abcdefgh", "plan  a 1:", " plan a 1:", "plan 1:",
                    "plan 1 2: 3", "plan A 1:", "plan a1 1:", "plan a: 1:", "plan abcdefghi 1:", "plan\ta 1:",
                    "plan a\t1:", "plan a\n1:", "plan \na 1:", "plan a\n 1:", "plana 1:", "plan a\n",
                    "Plan a 1:", "plan a_b 1:"]:
            self.check_none(row)

    def test_names_that_are_none(self):
        for name in ["", "A", "aB", "a1", "1", "abcdefghi", "a_b", "a-b", "a.", "a:", "-", "a\n", "\ta", "~", "a" * 30]:
            for verb in ASKED + ["drop"]:
                self.check_none(verb + " " + name)
            for verb in WITH_NUMBER:
                self.check_none(verb + " " + name + " 1")
            self.check_none("kind " + name + " squares 3")
            self.check_none("plan " + name + " 1:")

    def test_numbers_that_are_none(self):
        for number in ["", "01", "00", "007", "-1", "+1", "1.0", "1_0", "a", "1a", "x", "1234567890", "1000000000",
                       "0x1", "1,", "1:", "\n1", "1\n", "1\t", "000000000", "0123456789", "one", "--1", "1e3", "~"]:
            for verb in WITH_NUMBER:
                self.check_none(verb + " a " + number)
            self.check_none("kind a squares " + number)

    def test_kinds_that_are_no_words(self):
        for kind in ["", "Squares", "SQUARES", "squares1", "squares:", "1", "three-s", "pow_ers", "squares\n",
                     "\tprimes"]:
            self.check_none("kind a " + kind + " 3")


class TestRefused(unittest.TestCase):
    def check(self, desk, wanted):
        before = all_told(desk)
        for row, refusal in wanted:
            with self.subTest(row=row):
                check_refused(self, refusal, desk.say, row)
                self.assertEqual(all_told(desk), before)

    def test_no_name(self):
        rows = [verb + " b" for verb in ASKED + ["drop"]] + [verb + " b 1" for verb in WITH_NUMBER]
        rows += ["show aa", "show abcdefgh", "show ok", "show rows"]
        for desk in [Desk(), desk_with(a="1 2 3: 3 5")]:
            self.check(desk, [(row, NoName) for row in rows])

    def test_no_text(self):
        texts = ["", " ", "  ", "1", "1 2", ":", " 1:", "1: ", "1 : 2", "1:2", "2 1: 3", "01:", "1 2: 3 ",
                 "1 2: 3\n", "a", "1 2 3 4 5 6 7 8 9 10 11:", "1: 1 1", "-1:", "1 2 3 3 5", "\n", "1:\t2", "squares 3",
                 "a 1:"]
        for name in ["a", "b", "abcdefgh"]:
            self.check(desk_with(a="1 2 3: 3 5"), [("plan " + name + " " + text, NoText) for text in texts])

    def test_as_the_stages_refuse(self):
        desk = desk_with(a="1 2 3: 3 5", b="7:", c=TEN + ": 0 1 2 3 4 5 6 7 8 9")
        self.check(desk, [("come a 1", NoNumber), ("come a 3", NoNumber), ("come b 7", NoNumber),
                          ("come c 11", TooMany), ("come c 10", TooMany), ("go a 0", NoNumber), ("go a 4", NoNumber),
                          ("go b 7", NoNumber), ("go b 6", NoNumber), ("go c 0", NoNumber), ("go c 11", NoNumber),
                          ("sum a 3", NoSum), ("sum a 5", NoSum), ("sum c 10", TooMany), ("sum c 9", TooMany),
                          ("unsum a 4", NoSum), ("unsum b 0", NoSum), ("unsum c 10", NoSum), ("nth a 2", NoPlace),
                          ("nth b 1", NoPlace), ("nth a 999999999", NoPlace), ("kind a cubes 3", NoKind),
                          ("kind d square 3", NoKind), ("kind a s 3", NoKind), ("kind a squares 0", NoNumber),
                          ("kind a squares 11", NoNumber), ("kind d primes 999999999", NoNumber),
                          ("kind d powers 12", NoNumber)])

    def test_no_row_has_a_number(self):
        self.check(desk_with(a="1 2:"), [("nth a 0", NoPlace), ("nth a 1", NoPlace)])

    def test_two_due_at_once(self):
        desk = desk_with(a="1 2 3: 3 5", c=TEN + ": 0 1 2 3 4 5 6 7 8 9")
        self.check(desk, [("come b 01", NoSaying), ("nth b -1", NoSaying), ("rows b b", NoSaying),
                          ("drop b ", NoSaying), ("plan b1 x", NoSaying), ("plan abcdefghi ", NoSaying),
                          ("kind b Cubes 0", NoSaying), ("kind b cubes 00", NoSaying),
                          ("kind abcdefghi cubes 3", NoSaying),
                          ("come b 0", NoName), ("go b 1", NoName), ("unsum b 1", NoName), ("nth b 999999999", NoName),
                          ("kind b cubes 0", NoKind), ("kind a cubes 99", NoKind), ("plan b ", NoText),
                          ("come c 5", TooMany), ("sum c 5", TooMany)])

    def test_longest_words_that_do(self):
        desk = desk_with(abcdefgh="1 2: 3")
        self.check(desk, [("nth abcdefgh 123456789", NoPlace), ("kind abcdefgh " + "k" * 30 + " 3", NoKind),
                          ("go abcdefgh 999999999", NoNumber)])


class TestNothingShared(unittest.TestCase):
    def test_two_desks(self):
        one = Desk()
        other = Desk()
        one.say("plan a 1 2: 3")
        self.assertEqual([one.names(), other.names()], [["a"], []])
        check_refused(self, NoName, other.say, "show a")
        other.say("plan a 1 2: 3")
        one.say("come a 5")
        other.say("sum a 9")
        self.assertEqual([one.say("show a"), other.say("show a")], ["1 2 5: 3", "1 2: 3 9"])
        one.say("drop a")
        self.assertEqual([one.names(), other.names(), Desk().names()], [[], ["a"], []])

    def test_two_names(self):
        desk = desk_with(a="1 2: 3", b="1 2: 3")
        desk.say("kind c threes 2")
        desk.say("kind d threes 2")
        for row in ["come a 9", "sum a 10", "come c 9", "unsum c 3"]:
            desk.say(row)
        shown = [desk.say("show " + name) for name in desk.names()]
        self.assertEqual(shown, ["1 2 9: 3 10", "1 2: 3", "1 2 9:", "1 2: 3"])

    def test_the_same_again(self):
        desk = desk_with(a="1 2 3 4: 3 5 7", b="7:")
        before = all_told(desk)
        self.assertEqual([all_told(desk), all_told(desk)], [before, before])

    def test_as_anew(self):
        desk = desk_with(a="1 2 3: 3 5")
        for row in ["come a 4", "sum a 7", "unsum a 3", "come a 9", "go a 1", "sum a 13", "go a 9", "sum a 6"]:
            desk.say(row)
            self.assertEqual(all_told(desk), all_told(desk_with(a=desk.say("show a"))))


class TestInterface(unittest.TestCase):
    def test_arguments(self):
        self.assertEqual(list(inspect.signature(Desk).parameters), [])
        self.assertEqual(list(inspect.signature(Desk.say).parameters), ["self", "row"])
        self.assertEqual(list(inspect.signature(Desk.names).parameters), ["self"])


if __name__ == "__main__":
    unittest.main()
