"""[21]: names and texts, written and read."""

import random
import unittest

from paidbyheirs.bundles import plan_for
from paidbyheirs.errors import BadLine, Unfit
from paidbyheirs.kinds import all_kinds
from paidbyheirs.payments import mean_bundle
from paidbyheirs.errors import CanNot
from paidbyheirs.texts import bundle_text, craft_text, fraction_name, fraction_read, kind_name, kind_read, plan_text
from paidbyheirs.texts import read_bundle, read_craft, read_plan, read_web, web_text
from tests.known import AMPLE, BORDER, CHAIN, CRAFTS, KEPT, MELDS, PAIRS, STRAY, TWINS, diced_crafts, diced_webs

ALL = (*CRAFTS, AMPLE, BORDER, *diced_crafts(60))
LONG = "7" * 1000
MELD = (1, (((0,), (0,)), ((0,), ())), (0,), ())
# Signs that may be exchanged, put in, or left out.
SIGNS = "0123456789-,.;:/ \nkeprownvsti~A+_"


def bent(text):
    """All texts that are text with a sign left out, put in, or exchanged, or two lines exchanged, doubled, left out."""
    for at in range(len(text) + 1):
        for sign in SIGNS:
            yield text[:at] + sign + text[at:]
            yield text[:at] + sign + text[at + 1:]
        yield text[:at] + text[at + 1:]
        yield text[:at]
    lines = text.split("\n")
    for at in range(len(lines) - 1):
        yield "\n".join([*lines[:at], lines[at + 1], lines[at], *lines[at + 2:]])
        yield "\n".join([*lines[:at], lines[at], *lines[at:]])
        yield "\n".join([*lines[:at], *lines[at + 1:]])


def read(call, text):
    """What call tells of this text, or what it raises."""
    try:
        return call(text)
    except BadLine as error:
        return ("BadLine", error.number)
    except Unfit:
        return ("Unfit",)


class KindNames(unittest.TestCase):

    def test_by_hand(self):
        for kind, name in (
                ((0, (), (), ()), "0/-/-/-"), ((3, (((), ()),), (), ()), "3/-:-/-/-"), ((0, (), (0, 1), ((0,), (1,))),
                                                                                        "0/-/0,1/0;1"),
                ((0, (), (0, 1), ((0, 1),)), "0/-/0,1/0,1"), (MELD, "1/0:0;0:-/0/-"),
                ((12, (((0, 1), (1,)), ((), ())), (1,), ((1,),)), "12/0,1:1;-:-/1/1"),
                ((7, (((2,), (5, 6)), ((1,), (0,)), ((), ())), (10, 11), ((3,), (4, 9))),
                 "7/2:5,6;1:0;-:-/10,11/3;4,9")):
            self.assertEqual((kind_name(kind), kind_read(name)), (name, kind))

    def test_of_all_kinds(self):
        for craft in ALL[:40]:
            for kind in all_kinds(craft)[:60]:
                self.assertEqual(kind_read(kind_name(kind)), kind)

    def test_what_is_no_name(self):
        for word in ("", "-", "0", "0/-/-", "0/-/-/-/-", "/-/-/-", "0//-/-", "0/-//-", "0/-/-/", "-/-/-/-", "-1/-/-/-",
                     "00/-/-/-", "01/-/-/-",
                     "0/-/00/-", "0/-/0,/-", "0/-/,0/-", "0/-/1,0/-", "0/-/0,0/-", "0/-/0,1/1;0", "0/-/0,1/0;0",
                     "0/-/0,1/1,0", "0/-/0/-;0",
                     "0/-/0/0;-", "0/-/0/-;-", "0/0/-/-", "0/0:/-/-", "0/:0/-/-", "0/0:0:0/-/-", "0/-:-;/-/-",
                     "0/;-:-/-/-", "0/1,0:-/-/-",
                     "0/-:0,0/-/-", "0/-;-/-/-", " 0/-/-/-", "0/-/-/- ", "0/-/-/-\n", "\n0/-/-/-", "0/ -/-/-",
                     "+0/-/-/-", "0/-/1_0/-",
                     "0/-/0.0/-", "x/-/-/-", "0/-/-/x", "~", "0/--/-/-", "0/-/--/-"):
            self.assertIsNone(kind_read(word), msg=word)

    def test_guarantee_on_bent_names(self):
        many = 0
        for kind in ((0, (), (0, 1), ((0,), (1,))), MELD, (10, (((0, 1), (1,)),), (1, 20), ((1,),))):
            for word in bent(kind_name(kind)):
                told = kind_read(word)
                if told is not None:
                    many += 1
                    self.assertEqual(kind_name(told), word)
        self.assertGreater(many, 100)

    def test_numbers_with_many_figures(self):
        kind = (int(LONG), (((int(LONG),), ()),), (1, int(LONG)), ())
        self.assertEqual(kind_read(kind_name(kind)), kind)
        self.assertIsNone(kind_read("0" + kind_name(kind)))


class FractionNames(unittest.TestCase):

    def test_by_hand(self):
        for fraction, name in (((0, 1), "0/1"), ((-4, 3), "-4/3"), ((8, 3), "8/3"), ((10, 1), "10/1"),
                               ((-1, 100), "-1/100"),
                               ((int(LONG), 10), LONG + "/10"), ((-1, int(LONG)), "-1/" + LONG)):
            self.assertEqual((fraction_name(fraction), fraction_read(name)), (name, fraction))

    def test_what_is_no_name(self):
        for word in ("", "-", "/", "1", "-1", "1/", "/1", "-/1", "2/4", "0/2", "1/0", "0/0", "-0/1", "-1/-1", "1/-1",
                     "--1/2", "+1/2", "01/2", "1/02",
                     "1/2/3", " 1/2", "1/2 ", "1 /2", "1/2\n", "1/2/", "1_0/3", "a/b", "1.5/2", "-1/0", "00/1",
                     "- 1/2"):
            self.assertIsNone(fraction_read(word), msg=word)

    def test_guarantee_on_bent_names(self):
        for fraction in ((0, 1), (-4, 3), (10, 9), (-12, 5)):
            for word in bent(fraction_name(fraction)):
                told = fraction_read(word)
                self.assertTrue(told is None or fraction_name(told) == word)


class Crafts(unittest.TestCase):

    def test_by_hand(self):
        for craft, text in (
                (TWINS, "sizes 2 0\nrow - - 0 0\nnew 3 -\nnew 3 -\nrow 0 0.0 0 1\nrow 0 0.1 0 1\n"),
                (STRAY, "sizes 0 0\nrow - - 5 0\nrow 1 - 0 1\n"),
                (CHAIN, "sizes 1\nrow - - 0 0\nnone\nrow 0 - 0 0\nnew 1 0.0\nrow 0 0.0 0 0\nnone\n"),
                (PAIRS, "sizes 2 1\nrow - - 2 0\nnew 10 -\nnone\nrow 0 - 0 1\nnew 100 0.0,0.1\nrow 0,1 1.0,0.0 1 0\nkept 1 0\nkept 0 1\n"
                        "row 0,0 - 5 0\nnew 1000 0.0,1.0,1.1\nnew 10000 1.1\n")):
            self.assertEqual((craft_text(craft), read_craft(text), read_craft(text[:-1])), (text, craft, craft))

    def test_written_and_read(self):
        for craft in ALL:
            self.assertEqual(read_craft(craft_text(craft)), craft)
        long = ((0,), (((), (), int(LONG), 0, ()),))
        self.assertEqual(read_craft(craft_text(long)), long)

    def test_lines_that_can_not_stand_there(self):
        head = "sizes 1\nrow - - 0 0\n"
        for text, number in (
                ("", 0), ("\n", 0), ("\n\n", 0), ("sizes", 0), ("sizes\n", 0), ("sizes -", 0), ("sizes 1,2", 0),
                ("sizes 01", 0), ("sizes 1 ", 0),
                (" sizes 1", 0), ("sizes  1", 0), ("Sizes 1", 0), ("size 1", 0), ("row - - 0 0", 0), ("none", 0),
                ("sizes -1\nrow - - 0 0", 0),
                ("sizes 1", 1), ("sizes 1\n", 1), ("sizes 1\n\n", 1), ("sizes 1\nnone", 1), ("sizes 1\nnew 1 -", 1),
                ("sizes 1\nsizes 1", 1),
                ("sizes 1\nrow", 1), ("sizes 1\nrow - -", 1), ("sizes 1\nrow - - 0", 1), ("sizes 1\nrow - - 0 0 0", 1),
                ("sizes 1\nrow - - 0 -", 1),
                ("sizes 1\nrow - - -1 0", 1), ("sizes 1\nrow - - 0 00", 1), ("sizes 1\nrow 0, - 0 0", 1),
                ("sizes 1\nrow 0 0 0 0", 1),
                ("sizes 1\nrow 0 0.0,0.0 0 0", 1), ("sizes 1\nrow 0 0.0,1.0,0.0 0 0", 1), ("sizes 1\nrow 0 0.0.0 0 0",
                                                                                           1), ("sizes 1\nrow  - 0 0",
                                                                                                1),
                ("sizes 1\nrow - - 0 0 ", 1), (head + "\n", 2), (head + "\nnone", 2), (head + "none ", 2),
                (head + " none", 2), (head + "None", 2),
                (head + "none none", 2), (head + "old 4 -", 2), (head + "kept 0", 2), (head + "kept 0 0 0", 2),
                (head + "kept 0 -", 2),
                (head + "kept 0 0.0", 2), (head + "new 1", 2), (head + "new - 1", 2), (head + "new 1 0", 2),
                (head + "new 1 0.1,0.0", 2),
                (head + "new 1 0.0,0.0", 2), (head + "new -1 -", 2), (head + "new 1  -", 2), (head + "none\n\n", 3),
                (head + "none\nsizes 1", 3),
                (head + "none\nrow - - 0 0\nnew 1 1.0,0.1\n", 4), (head + "none\nrow - - 0 0\nnone\nnext", 5)):
            self.assertEqual(read(read_craft, text), ("BadLine", number), msg=text)

    def test_what_is_told_and_is_no_craft(self):
        for text in ("sizes 1\nrow - - 0 0", "sizes 1\nrow - - 0 0\nnone\nnone", "sizes 1\nrow - - 0 1\nnone",
                     "sizes 1\nrow 1 - 0 0\nnone",
                     "sizes 1\nrow 0 0.1 0 0\nnone", "sizes 1\nrow 0 1.0 0 0\nnone", "sizes 1\nrow 0,0,0 - 0 0\nnone",
                     "sizes 1\nrow - - 0 0\nkept 0 0", "sizes 1\nrow 0 - 0 0\nnew 1 0.0,0.1",
                     "sizes 2\nrow - - 0 0\nnone",
                     "sizes 0\nrow - - 0 0\nrow - - 0 9"):
            self.assertEqual(read(read_craft, text), ("Unfit",), msg=text)
        # Wants may be in any order but this, looks may be so.
        self.assertEqual(read_craft("sizes 2\nrow 0 0.1,0.0 0 0\nnone\nnone")[1][0][1], ((0, 1), (0, 0)))

    def test_guarantee_on_bent_texts(self):
        for craft in (CHAIN, MELDS, KEPT, STRAY, PAIRS):
            many = 0
            for text in bent(craft_text(craft)):
                told = read(read_craft, text)
                if isinstance(told[0], tuple):
                    many += 1
                    self.assertIn(text, (craft_text(told), craft_text(told)[:-1]))
                elif told[0] == "BadLine":
                    self.check_bad(text, told[1])
            self.assertGreater(many, 5)

    def check_bad(self, text, number):
        """All lines ahead of the one that is told can stand, and a wrong one behind them does not matter."""
        lines = text.split("\n")
        if lines[-1] == "":
            lines.pop()
        self.assertLessEqual(number, len(lines))
        ahead = read(read_craft, "\n".join(lines[:number]))
        self.assertTrue(ahead[0] != "BadLine" or ahead[1] == number)
        if number < len(lines):
            self.assertEqual(read(read_craft, "\n".join([*lines[:number + 1], "wrong"])), ("BadLine", number))


class Webs(unittest.TestCase):

    def test_by_hand(self):
        for web, text in (((), ""), (((0, ()),), "version 0 -\n"),
                          (((0, ()), (1, (0, 0))), "version 0 -\nversion 1 0,0\n"),
                          (((9, (7, 8, 9)),), "version 9 7,8,9\n")):
            self.assertEqual((web_text(web), read_web(text)), (text, web))

    def test_written_and_read(self):
        for craft in ALL[:50]:
            for web in diced_webs(craft, 2, 9):
                self.assertEqual(read_web(web_text(web)), web)
                self.assertEqual(read_web(web_text(web)[:-1]), web)

    def test_lines_that_can_not_stand_there(self):
        for text, number in (("\n", 0), ("version", 0), ("version 0", 0), ("version 0 - -", 0), ("version - -", 0),
                             ("version 0 0;0", 0),
                             ("version 0 -\n\n", 1), ("version 0 -\n\nversion 0 -", 1), ("version 0 - ", 0),
                             ("version  0 -", 0), ("version 00 -", 0),
                             ("version 0 -\nversion 1 0,", 1), ("version 0 -\nversion 1 -1", 1), ("step 0 -", 0),
                             (" ", 0), ("version 0 -\n ", 1)):
            self.assertEqual(read(read_web, text), ("BadLine", number), msg=text)


class Plans(unittest.TestCase):

    def test_by_hand(self):
        plan = (((0, (), (0,), ((0,),)), ()), (MELD, ((0, 0), (0, None))))
        text = "step 0/-/0/0 -\nstep 1/0:0;0:-/0/- 0.0,0.-\n"
        self.assertEqual((plan_text(plan), read_plan(text), read_plan(text[:-1])), (text, plan, plan))
        self.assertEqual((plan_text(()), read_plan("")), ("", ()))

    def test_written_and_read(self):
        for craft in ALL[:50]:
            for web in diced_webs(craft, 2, 8):
                plan = plan_for(craft, web)
                self.assertEqual(read_plan(plan_text(plan)), plan)

    def test_lines_that_can_not_stand_there(self):
        for text, number in (("\n", 0), ("step", 0), ("step 0/-/-/-", 0), ("step 0/-/-/- - -", 0), ("step 0/-/- -", 0),
                             ("step 0/-/-/- 0", 0),
                             ("step 0/-/-/- 0.", 0), ("step 0/-/-/- .0", 0), ("step 0/-/-/- -.-", 0),
                             ("step 0/-/-/- -.0", 0), ("step 0/-/-/- 0.0.0", 0),
                             ("step 0/-/-/- 0.00", 0), ("step 0/-/-/- 0.-,", 0), ("step 0/-/-/- -\nstep 0/-/-/- 0.--",
                                                                                  1), ("step 0/-/-/- -\n\n", 1),
                             ("step 0/-/1,0/- -", 0), ("kind 0/-/-/- -", 0)):
            self.assertEqual(read(read_plan, text), ("BadLine", number), msg=text)
        # Of any numbers: a PLAN or not.
        self.assertEqual(read_plan("step 5/-/-/- 9.9,8.-,7.1"), (((5, (), (), ()), ((9, 9), (8, None), (7, 1))),))


class Bundles(unittest.TestCase):

    def test_by_hand(self):
        bundle = (((0, (), (0,), ((0,),)), 12), (MELD, 1))
        text = "kind 0/-/0/0 12\nkind 1/0:0;0:-/0/- 1\n"
        self.assertEqual((bundle_text(bundle), read_bundle(text), read_bundle(text[:-1])), (text, bundle, bundle))

    def test_written_and_read(self):
        for craft in ALL:
            try:
                bundle = mean_bundle(craft)
            except CanNot:
                continue
            self.assertEqual(read_bundle(bundle_text(bundle)), bundle)
            many = tuple((kind, number * int(LONG[:990])) for kind, number in bundle)
            self.assertEqual(read_bundle(bundle_text(many)), many)

    def test_lines_that_can_not_stand_there(self):
        one, two = "kind 0/-/0/0 2", "kind 0/-/0,1/0;1 1"
        for text, number in (("", 0), ("\n", 0), ("kind", 0), ("kind 0/-/0/0", 0), ("kind 0/-/0/0 0", 0),
                             ("kind 0/-/0/0 -", 0), ("kind 0/-/0/0 -1", 0),
                             ("kind 0/-/0/0 02", 0), ("kind 0/-/0/0 2 2", 0), ("kind 0/-/0 2", 0),
                             (one + "\n" + one, 1), (two + "\n" + one, 1),
                             (one + "\n" + two + "\n" + one, 2), (one + "\n\n", 1), (one + "\n" + two + "\n\n" + two,
                                                                                     2), (one + " ", 0), ("\n" + one,
                                                                                                          0),
                             (one + "\nkind 0/-/0/0 3", 1), ("step 0/-/0/0 2", 0)):
            self.assertEqual(read(read_bundle, text), ("BadLine", number), msg=text)
        self.assertEqual(len(read_bundle(one + "\n" + two)), 2)


class Bent(unittest.TestCase):

    def test_guarantee_on_bent_texts(self):
        plan = (((0, (), (0,), ((0,),)), ()), (MELD, ((0, 0), (0, None))))
        for call, write, told in ((read_web, web_text, ((0, ()), (12, (0, 1)), (0, ()))), (read_plan, plan_text, plan),
                                  (read_bundle, bundle_text, (((0, (), (0,), ((0,),)), 12), (MELD, 1)))):
            many = 0
            for text in bent(write(told)):
                own = read(call, text)
                if own == () or isinstance(own[0], tuple):
                    many += 1
                    self.assertIn(text, (write(own), write(own)[:-1]))
            self.assertGreater(many, 20)

    def test_diced_signs(self):
        dice = random.Random(4)
        for _ in range(3000):
            text = "".join(dice.choice(SIGNS) for _ in range(dice.randint(0, 12)))
            for call in (read_craft, read_web, read_plan, read_bundle):
                own = read(call, text)
                self.assertTrue(own == () and text == "" or own[0] in ("BadLine", "Unfit"), msg=text)
            self.assertTrue(kind_read(text) is None or kind_name(kind_read(text)) == text)
            self.assertTrue(fraction_read(text) is None or fraction_name(fraction_read(text)) == text)


if __name__ == "__main__":
    unittest.main()
