"""loopbounds.console: points 8, 9, 13, 16, 17 and 19 and the section on the console, with points 2 to 7 for it."""

from loopbounds.console import Console
from loopbounds.desks import Desk
from loopbounds.errors import (
    Broken, Busy, InvalidCommand, InvalidNumber, InvalidRange, InvalidSum, NothingToUndo, Refused, Ring, TooFar, TooLong,
    TooMany, TwiceAssigned, UnknownName,
)
from loopbounds.extremes import greatest, least
from loopbounds.holding import first_break
from loopbounds.loops import Loop
from loopbounds.ratios import Ratio
from loopbounds.running import value_after
from loopbounds.sums import Sum
from loopbounds.texts import write_loop
from tests.helping import ODD_VALUES, Checks, nested
from tests.models import loop_of, random_model, random_parts, sum_of
from tests.test_desks import shown

START = "loop x in 1 to 3; y in 0 up; z in 4"
# Each is no line at all; with a NAME or a SUM in it, the names do not matter.
NO_LINES = (
    "", " ", "x", "loop", "loop ", "loop x", "loop x in", "loop x in ", "loop x in 1 to", "loop x in 1 to 1",
    "loop x in 1 up ", "loop x in  1", "loop  x in 1", " loop x in 1", "loop x in 1 ", "loop x in 1;", "loop x in 1; ",
    "loop x in 1;y in 2", "loop x in 1 ; y in 2", "loop x in 1;  y in 2", "loop y in 1; x in 2", "loop x in 1; x in 2",
    "loop X in 1", "loop self in 1", "loop abcdefghi in 1", "loop x1 in 1", "loop x in 2/4", "loop x in 1/1",
    "loop x in +1",
    "loop x in 01", "loop x in -0", "loop x in 1 to 2/2", "loop x in None", "loop x in None up", "loop x in 1 to None",
    "loop x in None to None", "loop x in up", "loop x in 1 down", "loop x in 1 up up", "loop x in 1 to 2 up",
    "loop x in 1 to 2 to 3", "loop x in to 2", "loop x at 1", "loop x = 1", "loop in 1", "Loop x in 1",
    "loop x in 1\ny in 2",
    "loop x in 1\n", "loop x in 1.0", "loop x in x", "loop x in 1; x = 1", "loop x in 0 to 0",
    "x =", "x = ", "x  = 1", "x =  1", " x = 1", "x = 1 ", "x=1", "x = x", "x = 1x", "x = 1 x+1", "x = 1 x + 0",
    "x = 1 x +1",
    "x = 0 x", "x = 2/2 x", "x = 1 y + 1 x", "x = 1 x + 1 x", "x = 1 + 1 x", "x = 1 + 1", "X = 1", "self = 1",
    "xxxxxxxxx = 1",
    "= 1", " = 1", "x = 1 every 2", "x = 1 every 2 at", "x = 1 every 2 at ", "x = 1 every  2 at 1",
    "x = 1 every 2 at 1 ", "x = 1 every 02 at 1", "x = 1 every 2 at 01", "x = 1 every 2/1 at 1", "x = 1 every 1/2 at 0",
    "x = 1 every x at 0", "x = 1 at 0 every 2", "x = every 2 at 1", "x = 1 x every 2 at 1 every 2 at 1", "x == 1",
    "x = = 1",
    "x = 1 self", "x in 1", "x + 1", "x = -x", "x = - 1",
    "guard", "guard ", "guard low", "guard low ", "guard low x", "guard low  1 x", "guard  low 1 x", "guard Low 1 x",
    "guard self 1", "guard low 1 x ", "guard low 1 x + 0", "guard low 1 x every 2 at 1", "guard 1", "guard 1 x",
    "guard 1 x + 1", "guard low = 1 x", "Guard low 1 x",
    "free", "free ", "free Low", "free low ", "free  low", "free low x", "free self", "free 1", "free low 1 x",
    "drop", "drop ", "drop x", "drop 1 ", "drop  1", "drop 01", "drop -0", "drop +1", "drop 1/2", "drop 2/1",
    "drop 1 x",
    "undo ", " undo", "undo 1", "undo undo", "Undo", "undo\n",
    "holds", "holds ", "holds x", "holds 1 x ", "holds  1 x", "holds 1 y + 1 x", "holds 0 x", "holds 1 x + 0",
    "holds 1 x 3",
    "holds low", "least", "least ", "least x", "least 1  x", "least 1 x 2", "greatest", "greatest ", "greatest x",
    "greatest 2 x 1", "most 1 x", "Least 1", "value", "value ", "value 1 x", "value 1", "value 3", "value 1 x  3",
    "value 1 x 3 ", "value 1 x x", "value 1 x 03", "value 1 x 3/1", "value 1 x +3", "value x 3", "value 1 x + 0 3",
    "value  3",
    "value 1 x three", "show ", " show", "show 1", "show x", "Show", "show; show", "undo; show", "x = 1; y = 2", "#",
    "help",
    "a" * 5000, "x = " + "1 x + " * 500 + "1", "; ", "desk", "say 1",
)


class ConsoleChecks(Checks):
    def check_answers(self, console, *pairs):
        for line, answer in pairs:
            self.check_same(console.say(line), answer)

    def check_unchanged(self, kind, fields, console, line):
        """The line raises the error with these fields, and the desk is the same one, and as before."""
        desk = console.desk
        before = None if desk is None else shown(desk)
        self.check_raised(kind, fields, console.say, line)
        self.assertIs(console.desk, desk)
        self.assertEqual(None if desk is None else shown(desk), before)


class LinesTest(ConsoleChecks):
    def test_making_desks(self):
        console = Console()
        self.assertIsNone(console.desk)
        self.check_same(console.say("loop x in 1 to 3"), "ok")
        first = console.desk
        self.assertIs(type(first), Desk)
        self.assertIs(console.desk, first)
        self.check_same(console.say(line="loop a in -1/2 up; b in 0 to 5/3; c in 7"), "ok")
        self.assertIsNot(console.desk, first)
        loop = console.desk.loop()
        self.assertEqual((loop.names, loop.body), (("a", "b", "c"), ()))
        self.assertEqual(loop.range_of("a"), (Ratio(-1, 2), None))
        self.assertEqual(loop.range_of("b"), (0, Ratio(5, 3)))
        self.assertEqual(loop.range_of("c"), (7, 7))
        self.assertEqual(shown(first), shown(Desk(Loop(x=(1, 3)))))

    def test_deeds(self):
        console = Console()
        lines = (START, "guard low 1 x", "x = 2 x + -1", "y = 1 y + 1/2 z every 3 at 2", "guard any 5", "z = 4", "drop 0",
                 "free any", "guard low 1 x + -1", "y = 3 every 3 at 1")
        for line in lines:
            self.check_same(console.say(line), "ok")
        desk = Desk(Loop(x=(1, 3), y=(0, None), z=4))
        x, y, z = Sum(x=1), Sum(y=1), Sum(z=1)
        desk.do_all(("guard", "low", x), ("assign", "x", 2 * x - 1, 1, 0), ("assign", "y", y + z * Ratio(1, 2), 3, 2),
                    ("guard", "any", 5), ("assign", "z", 4, 1, 0), ("drop", 0), ("free", "any"),
                    ("guard", "low", x - 1),
                    ("assign", "y", 3, 3, 1))
        self.assertEqual(shown(console.desk), shown(desk))
        for _ in lines[1:]:
            self.check_same(console.say("undo"), "ok")
        self.assertEqual(shown(console.desk), shown(Desk(Loop(x=(1, 3), y=(0, None), z=4))))
        self.check_unchanged(NothingToUndo, {}, console, "undo")

    def test_the_desk_may_be_changed_by_itself(self):
        console = Console()
        console.say("loop x in 0 to 1")
        console.desk.assign("x", Sum(x=1) + 1)
        self.check_answers(console, ("show", "x in 0 to 1; x = 1 x + 1"), ("undo", "ok"), ("show", "x in 0 to 1"))

    def test_show(self):
        console = Console()
        for line, answer in (
            ("loop x in 1 to 3", "x in 1 to 3"), (START, START[5:]), ("loop x in -1/2 up", "x in -1/2 up"),
            ("loop a in 1; b in 2; c in 3; d in 4; e in 5; f in 6", "a in 1; b in 2; c in 3; d in 4; e in 5; f in 6"),
        ):
            self.check_answers(console, (line, "ok"), ("show", answer))
        for seed in range(40):
            loop = loop_of(random_model(seed))
            lines = write_loop(loop).split("\n")
            console.say("loop " + "; ".join(lines[:len(loop.names)]))
            for line in lines[len(loop.names):]:
                self.check_same(console.say(line), "ok")
            self.check_same(console.say("show"), "; ".join(lines))

    def test_assignments_every_round(self):
        """What write_loop leaves out for assignments may be said."""
        console = Console()
        self.check_answers(console, (START, "ok"), ("x = 1 x + 1 every 1 at 0", "ok"),
                           ("show", START[5:] + "; x = 1 x + 1"))

    def test_questions(self):
        console = Console()
        for line in ("loop x in 90 to 100; y in 0 up; z in 0", "x = 1/2 x + 30", "y = 1 y + 1", "z = 1 z + 1"):
            self.check_same(console.say(line), "ok")
        self.check_answers(
            console, ("holds 1 x + -60", "always"), ("holds 1 x + -61", "not after 5 rounds"), ("holds 5", "always"),
            ("holds -1", "not after 0 rounds"), ("holds -1 z", "not after 1 rounds"),
            ("holds -1 y", "not after 0 rounds"),
            ("greatest 1 x", "100 after 0 rounds"), ("least 1 x", "60 not reached"),
            ("least -1 x", "-100 after 0 rounds"),
            ("greatest -1 x + 1/2", "-119/2 not reached"), ("greatest 1 y", "without bound after 0 rounds"),
            ("least -1 y", "without bound after 0 rounds"), ("least 1 y", "0 after 0 rounds"),
            ("greatest 1 z", "without bound"), ("least -1/3 z", "without bound"), ("least 1 z", "0 after 0 rounds"),
            ("least 7/2", "7/2 after 0 rounds"), ("greatest 0", "0 after 0 rounds"),
            ("value 1 x 0", "1 x"), ("value 1 x 2", "1/4 x + 45"), ("value 2 z + -5 1000", "2 z + 1995"),
            ("value 3 5", "3"),
            ("value 1 x + -2 y + 1/2 1", "1/2 x + -2 y + 57/2"), ("value 0 0", "0"),
        )

    def test_questions_on_models(self):
        for seed in range(40):
            model = random_model(seed)
            loop, total = loop_of(model), sum_of(random_parts(seed, model[0]))
            console = Console()
            lines = write_loop(loop).split("\n")
            for line in ("loop " + "; ".join(lines[:len(loop.names)]), *lines[len(loop.names):]):
                console.say(line)
            self.check_same(console.say(f"value {total} 7"), str(value_after(loop, total, 7)))
            try:
                found = first_break(loop, total)
            except TooFar:
                self.check_unchanged(TooFar, {}, console, f"holds {total}")
                continue
            self.check_same(console.say(f"holds {total}"), f"not after {found[0]} rounds" if found else "always")
            for word, call in (("least", least), ("greatest", greatest)):
                try:
                    value, rounds, _ = call(loop, total)
                except TooFar:
                    self.check_unchanged(TooFar, {}, console, f"{word} {total}")
                    continue
                text = "without bound" if value is None else str(value)
                text += f" after {rounds} rounds" if rounds is not None else "" if value is None else " not reached"
                self.check_same(console.say(f"{word} {total}"), text)


class NamesTest(ConsoleChecks):
    def test_assignments_to_any_name(self):
        words = ("loop", "guard", "free", "drop", "undo", "holds", "least", "greatest", "value", "show", "every", "at", "in",
                 "to", "up")
        for word in words:
            console = Console()
            self.check_answers(
                console, (f"loop {word} in 1", "ok"), (f"{word} = 1 {word} + 1 every 2 at 1", "ok"), (f"{word} = 3 every 2 at 0",
                                                                                              "ok"),
                ("show", f"{word} in 1; {word} = 1 {word} + 1 every 2 at 1; {word} = 3 every 2 at 0"), ("undo", "ok"),
                (f"guard {word} 1 {word}", "ok"), (f"holds 1 {word}", "always"), (f"value 1 {word} 2", f"1 {word} + 1"),
                (f"least 1 {word}", "1 after 0 rounds"), (f"greatest 1 {word}", "without bound"),
                (f"free {word}", "ok"),
                ("drop 0", "ok"), ("show", f"{word} in 1"), (f"{word} = 1 {word}", "ok"),
            )

    def test_sums_that_end_like_times(self):
        console = Console()
        self.check_answers(
            console, ("loop at in 0 to 1; every in 2", "ok"), ("at = 1 every", "ok"), ("undo", "ok"),
            ("at = 2 every every 2 at 1", "ok"), ("at = 1 at + 1 every every 2 at 0", "ok"),
            ("show", "at in 0 to 1; every in 2; at = 2 every every 2 at 1; at = 1 at + 1 every every 2 at 0"),
            ("value 1 at + 1 every 2", "3 every"), ("guard every 1 every", "ok"), ("guard at 1 at", "ok"),
        )

    def test_the_names_desk_and_ok(self):
        console = Console()
        self.check_answers(console, ("loop desk in 0; ok in 1", "ok"), ("desk = 1 desk + 1 ok", "ok"),
                           ("value 1 desk 3", "1 desk + 3 ok"))


class ErrorsTest(ConsoleChecks):
    def test_wrong_values(self):
        console = Console()
        for _ in range(2):
            for value in ODD_VALUES + (nested(70), ("show",), b"show", console, *NO_LINES):
                self.check_error(InvalidCommand, {"command": value}, console.say, value)
            console.say(START)
            console.say("x = 1 x + 1")
            console.say("guard low 1 x")
        self.check_same(console.say("show"), START[5:] + "; x = 1 x + 1")

    def test_wrong_lines_change_nothing(self):
        console = Console()
        console.say(START)
        for line in NO_LINES:
            self.check_unchanged(InvalidCommand, {"command": line}, console, line)

    def test_without_a_desk(self):
        console = Console()
        for line in (
            "x = 1", "loop = 1 x", "show = 3", "x = 1 every 9 at 9", "guard low 1 x", "free low", "drop 0", "drop -5",
            "undo",
            "holds 1 x", "least 1", "greatest 1 y", "value 1 x 3", "value 1 x 5000", "show",
        ):
            self.check_unchanged(UnknownName, {"name": "desk"}, console, line)

    def test_ranges_that_are_refused(self):
        for console in (Console(), Console()):
            if console:
                console.say("loop a in 1")
            for ranges, name in (
                ("x in 3 to 1", "x"), ("a in 1; x in 1/2 to -1/2; y in 3 to 1", "x"), (f"x in {10 ** 9 + 1}", "x"),
                (f"x in 0 to {10 ** 9 + 1}", "x"), (f"x in -{10 ** 9 + 1} up", "x"), (f"x in 1/{10 ** 9 + 1}", "x"),
            ):
                self.check_unchanged(InvalidRange, {"name": name}, console, "loop " + ranges)
            seven = "; ".join(f"{name} in 0" for name in "abcdefg")
            self.check_unchanged(TooMany, {"found": 7}, console, "loop " + seven)
            self.check_same(console.say(f"loop x in -{10 ** 9} to {10 ** 9}"), "ok")

    def test_errors_of_the_functions(self):
        console = Console()
        for line in (START, "guard low 1 x", "x = 1 x + 1 y every 4 at 0"):
            console.say(line)
        for line, kind, fields in (
            ("a = 1", UnknownName, {"name": "a"}), ("low = 1", UnknownName, {"name": "low"}),
            ("show = 3", UnknownName, {"name": "show"}), ("x = 1 b + 1 c + 1 x", UnknownName, {"name": "b"}),
            ("x = 1 every 0 at 0", InvalidNumber, {"number": 0}), ("x = 1 every 7 at 9", InvalidNumber, {"number": 7}),
            ("x = 1 every -1 at 0", InvalidNumber, {"number": -1}),
            ("x = 1 every 2 at 2", InvalidNumber, {"number": 2}),
            ("x = 1 every 2 at -1", InvalidNumber, {"number": -1}),
            ("x = 1 every 2 at 0", TwiceAssigned, {"name": "x"}),
            ("y = 1 every 3 at 0", TooMany, {"found": 12}), ("guard low 1 q", UnknownName, {"name": "q"}),
            ("free high", UnknownName, {"name": "high"}), ("drop 1", InvalidNumber, {"number": 1}),
            ("drop -1", InvalidNumber, {"number": -1}), ("holds 1 q + 1 r", UnknownName, {"name": "q"}),
            ("least 1 low", UnknownName, {"name": "low"}), ("greatest 1 q", UnknownName, {"name": "q"}),
            ("value 1 q 2000", UnknownName, {"name": "q"}), ("value 1 x 1001", InvalidNumber, {"number": 1001}),
            ("value 1 x -1", InvalidNumber, {"number": -1}), ("guard low 1 x + -2", Refused, {"name": "low"}),
            ("x = 1 x + -1 every 4 at 1", Refused, {"name": "low"}),
        ):
            self.check_unchanged(kind, fields, console, line)
        self.check_sum("x = 10 x", console)
        self.check_sum("x = 1001 every 9 at 9", console)
        with self.assertRaises(Ring) as caught:
            console.say("y = 1 x")
        self.assertEqual(sorted(caught.exception.ring), ["x", "y"])
        with self.assertRaises(Refused) as caught:
            console.say("guard top -1 x + 2")
        self.assertIs(type(caught.exception.__cause__), Broken)
        self.check_same(caught.exception.__cause__.rounds, 0)

    def check_sum(self, line, console):
        before = shown(console.desk)
        with self.assertRaises(InvalidSum) as caught:
            console.say(line)
        self.assertIs(type(caught.exception.value), Sum)
        self.assertEqual(shown(console.desk), before)

    def test_far(self):
        console = Console()
        for line in ("loop m in 0; n in 0; o in 2000", "m = 1 m + 1 n", "n = 1 n + 1", "guard some 1 o"):
            console.say(line)
        for line in ("holds 1 n + -1001", "guard far 1 n + -1001", "o = 1 o + -1", "greatest -1 m + 1000 n",
                     "least 1 m + -1000 n"):
            self.check_unchanged(TooFar, {}, console, line)
        self.check_answers(console, ("holds 1 n + -1000", "not after 0 rounds"),
                           ("greatest -1 m + 999 n", "499500 after 999 rounds"))

    def test_a_full_body(self):
        console = Console()
        console.say("loop a in 1; b in 1")
        for name in "ab":
            for at in range(6):
                console.say(f"{name} = {at} every 6 at {at}")
        self.check_unchanged(TooLong, {}, console, "a = 1")

    def test_busy(self):
        console = Console()
        console.say(START)
        answers = []

        def watch(desk):
            answers.append(console.say("show"))
            answers.append(console.say("holds 1 x"))
            for line in ("x = 1", "guard low 1 x", "free low", "drop 0", "undo", "drop 99", "free nothing"):
                self.check_unchanged(Busy, {}, console, line)

        console.desk.do_all(("assign", "x", Sum(x=1) - 1, 1, 0), watch=watch)
        self.assertEqual(answers, [START[5:] + "; x = 1 x + -1", "not after 2 rounds"])
