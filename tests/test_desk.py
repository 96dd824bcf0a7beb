"""Point [22]."""

import unittest

from asking import Asking
from reckoning import cost
from samples import parts, plain, row_on, short, split, stretch, sums_on
from turnsums.book import Book
from turnsums.desk import answers
from turnsums.errors import BadLine, TurnError
from turnsums.plantexts import plan_text
from turnsums.products import round_plain, straight_plain
from turnsums.rests import Rests
from turnsums.roots import Roots

A = Rests(97)


def shown(row):
    return " ".join(",".join(map(str, worth)) if isinstance(worth, tuple) else str(worth) for worth in row)


def kept(book):
    return " ".join(f"{length}:{plan_text(plan)}" for _, length, plan, _, _ in book.all_kept()) or "-"


class ByBook:
    """The same done to a Book, row by row, each answer written by hand."""

    def __init__(self):
        self.book = Book()
        self.ground = A
        self.rows = []
        self.wanted = []

    def add(self, row, told):
        self.rows.append(row)
        try:
            self.wanted.append(told())
        except TurnError as refusal:
            self.wanted.append("refused " + type(refusal).__name__)

    def to(self, word, number):
        def told():
            self.ground = (Rests if word == "rests" else Roots)(number)
            return "done"
        self.add(f"{word} {number}", told)

    def plan(self, n):
        self.add(f"plan {n}", lambda: plan_text(self.book.plan_for(self.ground, n)))

    def cost(self, n):
        self.add(f"cost {n}", lambda: str(cost(self.book.plan_for(self.ground, n), self.book.table_now())))

    def learn(self, plan):
        self.add(f"learn {plan_text(plan)}", lambda: self.book.learn(self.ground, plan) or "done")

    def forget(self, n):
        self.add(f"forget {n}", lambda: self.book.forget(self.ground, n) or "done")

    def table(self, first, second):
        self.add(f"table {first} {second}", lambda: self.book.retable((first, second)) or "done")

    def turn(self, row):
        self.add(f"turn {shown(row)}", lambda: shown(self.book.turned(self.ground, row)))

    def back(self, row):
        self.add(f"back {shown(row)}", lambda: shown(self.book.turned(self.ground, row, back=True)))

    def asked(self):
        self.add("kept", lambda: kept(self.book))
        self.add("spent", lambda: str(self.book.spent()))


class Asked(Asking):
    def assert_answers(self, *pairs):
        """Rows with their answers, all in one text."""
        text = "\n".join(row for row, _ in pairs)
        self.assert_same(answers(text), [wanted for _, wanted in pairs])

    def assert_bad(self, row):
        """It isn't so written, wherever it stands."""
        self.assert_refused(BadLine, 0, answers, row)
        self.assert_refused(BadLine, 0, answers, row + "\nspent")
        self.assert_refused(BadLine, 1, answers, "spent\n" + row)
        self.assert_refused(BadLine, 2, answers, "plan 5\nroots 31\n" + row + "\nkept\nturn")


class EachWord(Asked, unittest.TestCase):
    def test_as_written_out(self):
        self.assert_answers(
            ("kept", "-"), ("spent", "0"), ("plan 12", "(s3.s4)"), ("cost 12", "73"), ("turn 1 2 3 4", "10 51 95 42"),
            ("back 10 51 95 42", "1 2 3 4"), ("kept", "12:(s3.s4) 4:s4"), ("spent", "34"), ("learn p2", "done"),
            ("turn 1 2", "3 96"), ("spent", "39"), ("kept", "12:(s3.s4) 4:s4 2:p2"), ("forget 4", "done"),
            ("kept", "12:(s3.s4) 2:p2"), ("forget 4", "refused NotKept"), ("table 0 1000", "done"), ("kept", "2:p2"),
            ("round 1 2 3 / 4 5 6", "31 31 28"), ("straight 1 2 3 / 4 5", "4 13 22 15"), ("roots 4", "done"),
            ("turn 1,0 2,0 3,0 4,0", "10,0 -2,-2 -2,0 -2,2"), ("back 10,0 -2,-2 -2,0 -2,2", "1,0 2,0 3,0 4,0"),
            ("round 0,1 1,0 / 0,1 2,0", "1,0 0,3"), ("straight 0,1 1,0 / 0,1 2,0", "-1,0 0,3 2,0"),
            ("roots 1", "done"), ("turn 5", "5"), ("back -7", "-7"), ("round -3 / 2", "-6"),
            ("straight -3 / 4", "-12"), ("roots 2", "done"), ("turn 5 -3", "2 8"), ("rests 2", "done"), ("turn 1", "1"),
        )

    def test_rests_97_at_first(self):
        self.assert_answers(("turn 96 0", "96 96"), ("turn 97", "no worth"), ("plan 9", "refused NoRoot"), ("plan 4", "s4"))

    def test_by_a_book(self):
        for grounds in ((("rests", 97),), (("roots", 12), ("rests", 13), ("roots", 12)), (("rests", 241), ("roots", 30)),
                        (("roots", 1), ("roots", 2), ("rests", 2), ("rests", 7))):
            told = ByBook()
            for word, number in grounds:
                told.to(word, number)
                for n in (1, 2, 3, 4, 5, 6, 12, 60):
                    told.plan(n)
                    told.cost(n)
                    told.asked()
                for n in (1, 2, 3, 4, 6, 7):
                    row = row_on(told.ground, n)
                    if isinstance(told.ground, Roots):
                        row = [tuple(part % 1009 - 504 for part in worth) for worth in row]
                    told.turn(row)
                    told.back(row)
                    if told.ground.has_root(n):
                        told.back(sums_on(told.ground, row))
                    told.asked()
                for plan in (plain(6), split(short(2), short(2)), parts(short(3), short(4)), stretch(3, plain(6))):
                    told.learn(plan)
                    told.plan(6)
                    told.asked()
                told.table(7, 2)
                told.cost(6)
                told.cost(12)
                told.turn([told.ground.worth_of(1)] * 2)
                for n in (6, 6, 3, 60):
                    told.forget(n)
                    told.asked()
            self.assert_same(answers("\n".join(told.rows)), told.wanted)

    def test_round_and_straight(self):
        rows, wanted = [], []
        for ground in (Rests(241), Rests(13), Roots(12), Roots(2), Roots(30)):
            rows.append(str(ground))
            wanted.append("done")
            for n, m in ((1, 1), (2, 2), (3, 3), (2, 5), (6, 6), (4, 3), (7, 2)):
                one, other = [[tuple(part % 97 - 40 for part in worth) if isinstance(worth, tuple) else worth
                               for worth in row_on(ground, size, seed)] for size, seed in ((n, 0), (m, 3))]
                size = n + m - 1
                last = (ground.prime - 1) if isinstance(ground, Rests) else ground.order
                rows.append(f"round {shown(one)} / {shown(other)}")
                if n != m:
                    wanted.append("refused BadLength")
                else:
                    wanted.append(shown(round_plain(ground, one, other)) if last % n == 0 else "refused NoRoot")
                rows.append(f"straight {shown(one)} / {shown(other)}")
                free = any(last % length == 0 for length in range(size, 241))
                wanted.append(shown(straight_plain(ground, one, other)) if free else "refused NoRoot")
            rows.extend(["kept", "spent"])
            wanted.extend(["-", "0"])
        self.assert_same(answers("\n".join(rows)), wanted)

    def test_cost_uses_the_plan(self):
        # Six others are kept behind it unless it's used again.
        rows = ["plan 2", "plan 3", "plan 4", "plan 6", "plan 8", "plan 12", "cost 2", "plan 1", "kept"]
        self.assert_same(answers("\n".join(rows))[-1].split(" ")[-2:], ["2:s2", "1:p1"])
        self.assert_same(answers("cost 4\nkept"), ["11", "4:s4"])
        self.assert_same(answers("table 100 1\ncost 4\ntable 0 0\ncost 4\ntable 1000 1000\ncost 4"),
                         ["done", "801", "done", "0", "done", "9000"])

    def test_kept_of_all_grounds(self):
        self.assert_answers(
            ("learn s4", "done"), ("roots 4", "done"), ("learn p4", "done"), ("rests 5", "done"),
            ("learn (s2*s2)", "done"), ("kept", "4:s4 4:p4 4:(s2*s2)"), ("forget 4", "done"), ("kept", "4:s4 4:p4"),
            ("rests 97", "done"), ("plan 4", "s4"), ("kept", "4:p4 4:s4"),
        )

    def test_a_second_text_is_of_a_new_book(self):
        text = "plan 4\nroots 4\nlearn p2\ntable 5 5\nturn 1,0 0,1\nkept\nspent"
        wanted = answers(text)
        self.assertEqual(wanted[-2], "2:p2")
        self.assert_same(answers("kept\nspent\nturn 1 2\nspent"), ["-", "0", "3 96", "2"])
        self.assert_same(answers(text), wanted)


class NoWorth(Asked, unittest.TestCase):
    def test_on_rests(self):
        for w in ("97", "-1", "1000000000", "-1000000000", "1,2", "0,0", "1,2,3"):
            for row in (f"turn {w}", f"back {w}", f"turn 1 {w}", f"round {w} / 1", f"round 1 / {w}", f"straight 1 2 / {w}"):
                self.assert_answers((row, "no worth"))
        self.assert_answers(("turn 96", "96"), ("rests 2", "done"), ("turn 2", "no worth"), ("turn 1", "1"))

    def test_on_roots(self):
        for order, bad, good in ((4, "1", "1,2"), (4, "1,2,3", "-1,0"), (12, "1,2,3", "1,2,3,4"), (1, "1,2", "1"),
                                 (2, "0,0", "-1000000000"), (30, "1,2,3,4,5,6,7", "1,2,3,4,5,6,7,1000000000")):
            self.assert_answers(
                (f"roots {order}", "done"), (f"turn {bad}", "no worth"), (f"back {good} {bad}", "no worth"),
                (f"round {good} / {bad}", "no worth"), (f"straight {bad} / {good}", "no worth"), (f"turn {good}", good))

    def test_ahead_of_all_else(self):
        self.assert_answers(
            ("turn 1 2 3 4 97", "no worth"), ("turn 1 2 3 4 5", "refused NoRoot"), ("round 1 2 / -1", "no worth"),
            ("round 1 2 / 1", "refused BadLength"), ("straight " + "1 " * 60 + "/ 1,1", "no worth"),
            ("straight " + "1 " * 60 + "/" + " 1" * 60, "refused NoRoot"), ("roots 4", "done"),
            ("back 1,0 1", "no worth"), ("back 1,0 0,0", "refused NoShare"), ("turn 1,0 1,0 1", "no worth"),
        )

    def test_by_the_ground_of_then(self):
        self.assert_answers(
            ("turn 1", "1"), ("roots 4", "done"), ("turn 1", "no worth"), ("turn 1,2", "1,2"), ("rests 3", "done"),
            ("turn 3", "no worth"), ("turn 1,2", "no worth"), ("turn 2", "2"),
        )


class Refused(Asked, unittest.TestCase):
    def test_each_class(self):
        self.assert_answers(
            ("rests 0", "refused BadGround"), ("rests 1", "refused BadGround"), ("rests 96", "refused BadGround"),
            ("rests 10000", "refused BadGround"), ("rests 9973", "done"), ("roots 0", "refused BadGround"),
            ("roots 31", "refused BadGround"), ("roots 10000", "refused BadGround"), ("plan 5", "refused NoRoot"),
            ("cost 5", "refused NoRoot"), ("learn p5", "refused NoRoot"), ("learn (3~p5)", "refused NoRoot"),
            ("turn 1 2 3 4 5", "refused NoRoot"), ("back 1 2 3 4 5", "refused NoRoot"),
            ("round 1 2 3 4 5 / 1 2 3 4 5", "refused NoRoot"), ("forget 5", "refused NotKept"),
            ("forget 60", "refused NotKept"), ("round 1 2 / 1 2 3", "refused BadLength"), ("roots 30", "done"),
            ("kept", "-"), ("spent", "0"),
        )

    def test_the_ground_stays(self):
        self.assert_answers(
            ("rests 13", "done"), ("rests 12", "refused BadGround"), ("turn 13", "no worth"), ("turn 12", "12"),
            ("roots 99", "refused BadGround"), ("turn 12", "12"),
        )

    def test_no_share_keeps_nothing(self):
        self.assert_answers(
            ("roots 4", "done"), ("back 1,0 0,0", "refused NoShare"), ("kept", "-"), ("spent", "0"),
            ("back 1,1 1,1", "1,1 0,0"), ("kept", "2:s2"), ("spent", "8"),
        )


class Written(Asked, unittest.TestCase):
    def test_bounds_of_numbers(self):
        for word, least, most in (("rests", 0, 10 ** 4), ("roots", 0, 10 ** 4), ("plan", 1, 60), ("cost", 1, 60),
                                  ("forget", 1, 60)):
            for number in (least, most):
                self.assertEqual(len(answers(f"{word} {number}")), 1)
            for number in (least - 1, most + 1, -most, 10 * most, 10 ** 12, 10 ** 300):
                self.assert_bad(f"{word} {number}")
        for first, second in ((0, 0), (1000, 1000), (0, 1000), (1000, 0)):
            self.assert_same(answers(f"table {first} {second}"), ["done"])
        for first, second in ((1001, 0), (0, 1001), (-1, 0), (0, -1)):
            self.assert_bad(f"table {first} {second}")
        for number in (10 ** 9, -10 ** 9):
            self.assert_same(answers(f"roots 1\nturn {number}"), ["done", str(number)])
            self.assert_same(answers(f"roots 4\nturn {number},{-number}"), ["done", f"{number},{-number}"])
        for number in (10 ** 9 + 1, -10 ** 9 - 1, 10 ** 10, 10 ** 390):
            for row in (f"turn {number}", f"back 1 {number}", f"turn 1,{number}", f"round 1 / {number}",
                        f"straight {number} / 1"):
                self.assert_bad(row)

    def test_very_long_numbers(self):
        # Longer than Python reads.
        figures = "1" + "0" * 5000
        for row in (f"rests {figures}", f"plan {figures}", f"turn {figures}", f"turn -{figures}", f"learn p{figures}",
                    f"learn ({figures}^p{figures})", f"table 1 {figures}", f"round 1 / 1,{figures}"):
            self.assert_bad(row)

    def test_numbers_not_so_written(self):
        for number in ("", "00", "01", "-0", "-01", "+1", "+0", "1.0", "1e3", "a", "0x1", "1_0", "--1", "-", "1-", "'1'",
                       "(1)", "\t1", "1\r", "\u0661", "\u00b2", "\uff11"):
            for row in (f"rests {number}", f"plan {number}", f"table {number} 1", f"table 1 {number}", f"turn {number}",
                        f"turn 1 {number}", f"back {number} 1", f"turn 1,{number}", f"turn {number},1",
                        f"turn 1,{number},1", f"round {number} / 1", f"round 1 / {number}", f"straight 1 / 1 {number}"):
                self.assert_bad(row)
        self.assert_same(answers("table 0 0\nturn 0\nroots 4\nturn 0,0"), ["done", "0", "done", "0,0"])

    def test_blanks(self):
        for row in (" ", "  ", " kept", "kept ", " spent", "spent ", " plan 4", "plan 4 ", "plan  4", "turn 1  2",
                    "turn 1 2 ", " turn 1", "table 1  1", "round 1  / 1", "round 1 /  1", "round 1 / 1 ", "learn  s4",
                    "learn s4 ", "plan\t4", "plan 4\r", "turn 1, 2", "turn 1 ,2", "learn (s2 *s2)", "kept\t", "turn 1\x0b2"):
            self.assert_bad(row)

    def test_words(self):
        for row in ("help", "Kept", "KEPT", "kep", "keptt", "0", "/", "-", "done", "plan_for 4", "turned 1", "rest 97",
                    "root 4", "kept spent", "kept 1", "spent 0", "plan", "plan 4 4", "cost", "cost 4 4", "rests", "roots",
                    "rests 97 97", "roots 4 4", "forget", "forget 4 4", "table", "table 1", "table 1 2 3", "turn", "back",
                    "learn", "learn s4 s4", "learn 4", "round", "straight", "plan s4", "turn s4", "4 plan", "twin", "log",
                    "learnt s4", "help s4", "s4", "kept s4", "p4 p4"):
            self.assert_bad(row)

    def test_strokes(self):
        for word in ("round", "straight"):
            for rest in ("1", "1 2", "/", "1 /", "/ 1", "1 / 2 / 3", "1 / / 2", "1 // 2", "1/2", "1/ 2", "1 /2", "/ /",
                         "1 2 / 3 4 /", "/ 1 / 2", "1 \\ 2", "1 , 2"):
                self.assert_bad(f"{word} {rest}")
        for row in ("turn 1 / 2", "back 1 / 2", "turn /", "turn / 1", "plan / 4", "kept /"):
            self.assert_bad(row)

    def test_commas(self):
        for w in (",", "1,", ",1", "1,,2", ",,", "1,2,", ",1,2", "1;2", "1,-", "1,2,,3"):
            for row in (f"turn {w}", f"back 1,1 {w}", f"round {w} / 1", f"straight 1 / {w}"):
                self.assert_bad(row)

    def test_how_many_worths(self):
        ones = "1 " * 59 + "1"
        for row in (f"turn {ones}", f"back {ones}", f"round {ones} / {ones}", f"straight {ones} / {ones}", "turn 1"):
            self.assertEqual(len(answers(row)), 1)
        self.assert_same(answers(f"rests 61\nturn {ones}"), ["done", "60" + " 0" * 59])
        self.assert_same(answers(f"rests 241\nstraight {ones} / {ones}"), [
            "done", " ".join(str(min(k + 1, 119 - k)) for k in range(119))])
        for row in (f"turn {ones} 1", f"back {ones} 1", f"round {ones} 1 / {ones}", f"round {ones} / {ones} 1",
                    f"straight {ones} 1 / 1", f"straight 1 / 1 {ones}"):
            self.assert_bad(row)

    def test_plans(self):
        for text in ("p1", "p60", "s1", "s4", "(s2*p30)", "(p4.p15)", "(59^p58)", "(60~p119)", "(60~p240)",
                     "(2~(s2*p120))", "(2~(60~p240))", "(2~p240)", "(3^(2~(3^(2~(3^s2)))))"):
            self.assertIn(answers(f"learn {text}")[0], ("done", "refused NoRoot"), text)
        for text in ("p61", "(s2*p31)", "(p7.p9)", "(61^p60)", "(61~p121)", "(2~p241)", "(2~(s2*p121))", "(2~(p11.p22))",
                     "(60~p241)", "(2~(3~p241))", "(2~(p16*p16))", "p999", "p1000", "p100000000000000000000",
                     "(2~p99999999999999999999)", "(99999999999999997^p99999999999999996)",
                     "(10000000000000061^p10000000000000060)", "p" + "9" * 390):
            self.assert_bad(f"learn {text}")
        for text in ("p0", "s5", "p", "s", "p01", "p-1", "(s2*p1)", "(s2.s4)", "(4^p3)", "(5^s3)", "(5~p8)", "(1~p1)", "s2*s2",
                     "(s2*s2", "((s2*s2))", "(s2+s2)", "", "q4", "P4", "(s2*s2)s", "p+4", "(2^p1)", "()", "4", "(" * 390,
                     ")" * 390, "p4,p4", "p4/"):
            self.assert_bad(f"learn {text}")

    def test_line_feeds(self):
        self.assert_same(answers(""), [])
        self.assert_refused(BadLine, 0, answers, "\n")
        self.assert_refused(BadLine, 1, answers, "kept\n")
        self.assert_refused(BadLine, 0, answers, "\nkept")
        self.assert_refused(BadLine, 1, answers, "kept\n\nkept")
        self.assert_refused(BadLine, 2, answers, "kept\nspent\n")
        self.assert_refused(BadLine, 0, answers, "kept\rspent")
        self.assert_refused(BadLine, 0, answers, "kept\x0cspent")
        self.assert_refused(BadLine, 0, answers, "kept\u2028spent")
        self.assert_same(answers("kept\nspent"), ["-", "0"])
        self.assert_same(answers("\n".join(["spent"] * 60)), ["0"] * 60)

    def test_the_first_of_several(self):
        self.assert_refused(BadLine, 1, answers, "rests 4\nplan 0\nplan 61\nhelp")
        self.assert_refused(BadLine, 3, answers, "turn 97\nplan 5\nforget 1\nkept 1\n")


class Calls(Asked, unittest.TestCase):
    def test_by_name(self):
        self.assert_same(answers(text="plan 4"), ["s4"])

    def test_told_lists(self):
        self.assert_own(answers, "plan 4\nkept")


if __name__ == "__main__":
    unittest.main()
