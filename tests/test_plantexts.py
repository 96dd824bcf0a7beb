"""Point [9]."""

import unittest

from asking import Asking
from samples import FORMS, GREAT, NESTED, parts, plain, powers, short, split, split_deep, stretch, stretch_deep
from turnsums.errors import BadText
from turnsums.plans import is_plan
from turnsums.plantexts import plan_in, plan_text

PLANS = FORMS + NESTED + GREAT

BAD = (
    "", " ", "p", "s", "5", "12", "0", "-5", "+5", "()", "(", ")", "*", ".", "^", "~", "((", "))", "(p5)", "((p5))",
    "(s2*s2", "s2*s2)", "s2*s2", "(s2s2)", "(s2*)", "(*s2)", "(s2**s2)", "(s2*s2))", "((s2*s2)", "((s2*s2))",
    "(s2*s2)*", "(s2*s2)s2", "(s2*s2)(s2*s2)", "s2s2", "s2 s2", "p5p5", "p5s4", "p5x", "xp5", "p5\n", "\np5", "p5)",
    "(p5", "p 5", "p-5", "p+5", "p5.", ".p5", "p5,", "p5.0", "5p", "P5", "S4", "plain5", "[s2*s2]", "{s2*s2}",
    # Noughts ahead.
    "p05", "p005", "s04", "s02", "(s02*s2)", "(s2*p03)", "(05^s4)", "(5^s04)", "(05~p9)", "(5~p09)",
    # Numbers that no PLAN has.
    "p0", "s0", "s5", "s6", "s10", "s44", "p00", "(0~p9)", "(0^s4)", "(s2*s5)", "(s0*s2)", "(p0.s3)",
    # Signs otherwise.
    "(s2+s2)", "(s2x s2)", "(s2/s3)", "(s2-s3)", "(s2:s3)", "(s2,s3)", "(s2;s3)", "(5&s4)", "(5-p9)", "(5_p9)",
    "(5*s4)", "(5.s4)", "(s4*5)", "(s4.5)", "(s2^s2)", "(p5^s4)", "(s2~s3)", "(p5~p9)", "(s4^5)", "(5^5)", "(5^4)",
    "(5~9)", "(2*2)", "(*^*)", "((^()", "(s2(s3)", "(s2)s3)", "(((s2)", "(s2p3s2)", "(5p5s4)", "(s2ps2)",
    # One of both below 2.
    "(s1*s2)", "(s2*s1)", "(p1*p5)", "(p5*p1)", "(s1*s1)", "(s1.s2)", "(s3.p1)", "(p1.p1)",
    # A divisor in common.
    "(s2.s4)", "(s2.s2)", "(p6.s4)", "(s3.p9)", "(p10.p15)", "((s2.s3).s4)",
    # No prime, or another length.
    "(4^s3)", "(9^p8)", "(15^p14)", "(1^p1)", "(2^p1)", "(2^s1)", "(5^s3)", "(5^p5)", "(5^p6)", "(7^(s2.p5))",
    "(7^(s2*s4))", "(5^s2)", "(49^p48)", "(51^p50)",
    # One too short.
    "(5~p8)", "(2~s2)", "(2~p2)", "(3~s4)", "(60~p118)", "(1~p1)", "(1~p9)", "(1~s1)", "(5~s4)", "(5~(s2*s4))",
    # A wrong one deep within.
    "(s2*(s2*(s2*s5)))", "(s2*(s2*(s2*p0)))", "((((s1*s2)*s2)*s2)*s2)", "(s2*(s2*(5^s3)))", "(2~(3~(5~p8)))",
)


class Texts(Asking, unittest.TestCase):
    def test_text_of_each(self):
        for plan, text in PLANS:
            self.assert_same(plan_text(plan), text)

    def test_plan_of_each(self):
        for plan, text in PLANS:
            self.assert_same(plan_in(text), plan)

    def test_as_told(self):
        told = (
            (plain(5), "p5"), (short(4), "s4"), (split(short(2), plain(3)), "(s2*p3)"),
            (parts(short(3), short(4)), "(s3.s4)"), (powers(5, short(4)), "(5^s4)"),
            (stretch(5, plain(9)), "(5~p9)"),
        )
        for plan, text in told:
            self.assert_same(plan_text(plan), text)
            self.assert_same(plan_in(text), plan)

    def test_noughts_that_are_not_ahead(self):
        for plan, text in ((plain(10), "p10"), (plain(100), "p100"), (stretch(10, plain(20)), "(10~p20)"),
                           (powers(11, plain(10)), "(11^p10)"), (powers(101, plain(100)), "(101^p100)")):
            self.assert_same(plan_text(plan), text)
            self.assert_same(plan_in(text), plan)

    def test_nine_deep(self):
        for levels in range(1, 10):
            plan = split_deep(levels)
            self.assert_same(plan_text(plan), "(s2*" * levels + "s2" + ")" * levels)
            self.assert_same(plan_in(plan_text(plan)), plan)
            plan = short(2)
            for _ in range(levels):
                plan = split(plan, short(4))
            self.assert_same(plan_text(plan), "(" * levels + "s2" + "*s4)" * levels)
            self.assert_same(plan_in(plan_text(plan)), plan)
        plan = stretch_deep(*[2 ** level + 1 for level in range(10)])
        self.assert_same(plan_text(plan), "(2~(3~(5~(9~(17~(33~(65~(129~(257~p513)))))))))")
        self.assert_same(plan_in(plan_text(plan)), plan)

    def test_a_far_greater_depth_that_a_text_has_room_for(self):
        text = "(s2*" * 79 + "s2" + ")" * 79
        self.assertEqual(plan_text(plan_in(text)), text)


class Refused(Asking, unittest.TestCase):
    def test_bad_texts(self):
        for text in BAD:
            self.assert_refused(BadText, text, plan_in, text)

    def test_a_blank_anywhere(self):
        for _, text in PLANS:
            for at in range(len(text) + 1):
                wrong = text[:at] + " " + text[at:]
                self.assert_refused(BadText, wrong, plan_in, wrong)

    def test_a_sign_more_or_less_makes_another_text_or_none(self):
        for _, text in FORMS + NESTED:
            wrongs = [text[:at] + text[at + 1:] for at in range(len(text))]
            wrongs += [text[:at] + sign + text[at:] for at in range(len(text) + 1) for sign in "()*.^~ps0159, x"]
            wrongs += [text[:at] + sign + text[at + 1:] for at in range(len(text)) for sign in "()*.^~ps0159, x"]
            for wrong in wrongs:
                try:
                    told = plan_in(wrong)
                except BadText as refusal:
                    self.assertEqual(refusal.what, wrong)
                else:
                    # What is taken is a PLAN, and this is its very text.
                    self.assertIs(is_plan(told), True)
                    self.assertEqual(plan_text(told), wrong)

    def test_a_bracket_out_or_too_many(self):
        for _, text in PLANS:
            for at in range(len(text) + 1):
                for sign in "()":
                    wrong = text[:at] + sign + text[at:]
                    self.assert_refused(BadText, wrong, plan_in, wrong)
                if text[at:at + 1] in ("(", ")"):
                    wrong = text[:at] + text[at + 1:]
                    self.assert_refused(BadText, wrong, plan_in, wrong)

    def test_something_ahead_or_behind(self):
        for _, text in PLANS:
            for more in (" ", "\n", ")", "(", "p5", "x", ".", "*s2", text):
                self.assert_refused(BadText, text + more, plan_in, text + more)
            for more in (" ", "\n", ")", "(", "x", ".", "s2*", "0", "5", text):
                self.assert_refused(BadText, more + text, plan_in, more + text)

    def test_texts_of_one_sign_over_and_over(self):
        for sign in "()*.^~ps019 x":
            if sign not in "ps019":
                self.assert_refused(BadText, sign * 400, plan_in, sign * 400)
        for text in ("(" * 399 + "s2", "(" * 398 + "s2" + ")", "s2" + ")" * 398, "(s2*" * 100, "p" * 400, "9" * 400,
                     "s2" * 200, "p0" * 200, "(5~" * 133):
            self.assert_refused(BadText, text, plan_in, text)

    def test_figures_of_other_scripts(self):
        for text in ("p\u0665", "s\u0662", "p\u00b2", "(\u0665^s4)", "p1\u0665"):
            self.assert_refused(BadText, text, plan_in, text)


class Calls(Asking, unittest.TestCase):
    def test_by_name(self):
        self.assertEqual(plan_text(plan=plain(5)), "p5")
        self.assertEqual(plan_in(text="(s2*p3)"), split(short(2), plain(3)))
        self.assert_refused(BadText, "p", plan_in, text="p")


if __name__ == "__main__":
    unittest.main()
