"""loopbounds.texts: the section on texts of loops, with points 3 to 7 and 10 and 11 for them."""

import itertools
import re

from loopbounds.errors import InvalidText, NotALoop
from loopbounds.loops import Loop
from loopbounds.ratios import Ratio
from loopbounds.sums import Sum
from loopbounds.texts import read_loop, write_loop
from tests.helping import ODD_VALUES, Checks, nested
from tests.models import loop_of, random_model
from tests.test_loops import state

BILLION = 10 ** 9
# Parts of lines that are told apart wrongly if the words of a line are taken for something else.
LINES = (
    "x in 1", "x in 1 to 2", "x in 1 up", "x = 1", "x = 1 x", "x = 1 x every 2 at 1", "in in 0", "in = 1 in", "= in 1",
    "every in 1 up", "x = 1 every every 2 at 1", "at in -1 to 1", "x = 2 at + 1 every every 3 at 0", "to in 1 to 2",
    "up in 1 up", "x = 1 every", "x = 1 at + 1", "x = 1 every + 2", "",
)
GOOD_TEXTS = (
    "x in 1", "x in -1/2", "x in 0 up", "x in -3 to 5/2", "a in 1\nb in 2\nc in 3\nd in 4\ne in 5\nf in 6",
    "x in 1\nx = 0", "x in 1\nx = 9 x + 1000", "x in 1\nx = -1/9 x + -1000/9", "x in 1\nx = 1 x every 6 at 5",
    "x in 1\ny in 0 up\ny = 1 x + 1 y every 2 at 0\nx = 1\ny = 0 every 2 at 1",
    "every in 1\nx in 2\nx = 1 every every 2 at 1", "at in 1\nevery in 2\nx in 3\nx = 1 at + 2 every every 3 at 0",
    "in in 1 to 2\nin = 1 in", "to in 1 to 2", "up in 1 up", "at in -1 up\nat = 2 at every 2 at 1",
    f"x in {-BILLION} to {BILLION}", f"x in 1/{BILLION} up", f"x in {BILLION}",
)
BAD_TEXTS = (
    "", "\n", " ", "x", "x in", "x in ", "x in  1", "x  in 1", " x in 1", "x in 1 ", "x in 1\n", "\nx in 1",
    "x in 1\n\n",
    "x in 1 to 1", "x in 2 to 1", "x in 1 to", "x in 1 to ", "x in 1 to up", "x in up", "x in to 1", "x in 1 up up",
    "x in 1 up 2", "x in 1 to 2 to 3", "x in 1 to 2 up", "x in 1 2", "x in 1 To 2", "x in 1 UP", "x in one", "x in x",
    "x in 2/4", "x in 1/1", "x in 01", "x in +1", "x in -0", "x in 1.0", "x in 1/2 to 2/4", "x in None", "x in (1, 2)",
    "x in 1 to None", "X in 1", "self in 1", "self in 1\nx in 2", "abcdefghi in 1", "x1 in 1", " in 1", "in 1",
    "x in 1\nx in 1", "x in 1\nx in 2", "y in 1\nx in 2", "x in 1\nx = 1 x\ny in 2", "x = 1", "x in 1\ny = 1",
    "x in 1\nx = 1 y", "x in 1\nx = x", "x in 1\nx = 1 * x", "x in 1\nx = 1 x + 0", "x in 1\nx = 0 x", "x in 1\nx = ",
    "x in 1\nx =", "x in 1\nx", "x in 1\nx=1", "x in 1\nx  = 1", "x in 1\nx =  1", "x in 1\nx = 1 ", "x in 1\nx == 1",
    "x in 1\nx = 1 + 1", "x in 1\nx = 1 x every 1 at 0", "x in 1\nx = 1 every 2", "x in 1\nx = 1 x every 2",
    "x in 1\nx = 1 x every 2 at", "x in 1\nx = 1 x every 2 at 2", "x in 1\nx = 1 x every 2 at -1",
    "x in 1\nx = 1 x every 7 at 0", "x in 1\nx = 1 x every 0 at 0", "x in 1\nx = 1 x every -2 at 0",
    "x in 1\nx = 1 x every 02 at 0", "x in 1\nx = 1 x every 2 at 00", "x in 1\nx = 1 x every 2 at -0",
    "x in 1\nx = 1 x every 2/1 at 0", "x in 1\nx = 1 x  every 2 at 0", "x in 1\nx = 1 x every  2 at 0",
    "x in 1\nx = 1 x every 2  at 0", "x in 1\nx = 1 x every 2 at  0", "x in 1\nx = 1 x every 2 at 0 ",
    "x in 1\nx = 1 x at 0 every 2", "x in 1\nx = every 2 at 0", "x in 1\nx = 1 x every 2 at 0 every 2 at 0",
    "x in 1\nx = 1 x\nx = 1 x", "x in 1\nx = 1 x every 2 at 0\nx = 1 x every 3 at 0", "x in 1\nx = 10 x",
    "x in 1\nx = 1001", "x in 1\nx = 1/10", "x in 1\nx = 1 x every 4 at 0\nx = 1 x every 6 at 1",
    "x in 1\ny in 1\nx = 1 y\ny = 1 x", "x in 1\nx = 1 y + 1 x", "x in 1; x = 1", "x in 1\tto 2",
    f"x in {BILLION + 1}", f"x in 1/{BILLION + 1} up", f"x in 0 to {BILLION + 1}",
    "a in 1\nb in 2\nc in 3\nd in 4\ne in 5\nf in 6\ng in 7", "x in 1\nx is 1 x", "x is 1", "x in 1\nX = 1",
    "x in 1\nself = 1", "x in 1\n = 1", "x in 1\nx = 1 self", "x in 1" + "\nx = 1" * 10000, "x in 1\n" * 9000,
)


class WritingTest(Checks):
    def test_ranges(self):
        for told, text in (
            (1, "1"), ((1, 1), "1"), ((Ratio(1, 2), Ratio(2, 4)), "1/2"), ((0, None), "0 up"), ((-1, 0), "-1 to 0"),
            ((Ratio(-7, 2), Ratio(-1, 3)), "-7/2 to -1/3"), ((Ratio(-7, 2), None), "-7/2 up"),
            (-BILLION, f"{-BILLION}"),
        ):
            self.check_same(write_loop(Loop(x=told)), f"x in {text}")
            self.check_same(write_loop(loop=Loop(x=told, a=0)), f"a in 0\nx in {text}")

    def test_assignments(self):
        loop = Loop(z=1, x=(0, None))
        loop.assign("z", Sum(Ratio(1, 2), x=2, z=-1), every=2, at=1)
        loop.assign("x", 0)
        loop.assign("z", loop["z"], every=2, at=0)
        self.check_same(
            write_loop(loop), "x in 0 up\nz in 1\nz = 2 x + -1 z + 1/2 every 2 at 1\nx = 0\nz = 1 z every 2 at 0"
        )
        loop.drop(0)
        self.check_same(write_loop(loop), "x in 0 up\nz in 1\nx = 0\nz = 1 z every 2 at 0")

    def test_wrong_loops(self):
        for value in ODD_VALUES + ("x in 1", Sum(1), nested(70), Loop):
            self.check_error(NotALoop, {"value": value}, write_loop, value)
            self.check_error(NotALoop, {"value": value}, write_loop, loop=value)


class ReadingTest(Checks):
    def check_text(self, text):
        loop = read_loop(text)
        self.assertIs(type(loop), Loop)
        self.check_same(write_loop(loop), text)

    def test_good_texts(self):
        for text in GOOD_TEXTS:
            self.check_text(text)
            self.check_same(write_loop(read_loop(text=text)), text)

    def test_there_and_back(self):
        for seed in range(150):
            loop = loop_of(random_model(seed))
            again = read_loop(write_loop(loop))
            self.assertEqual(state(again), state(loop))
            self.assertIsNot(again, read_loop(write_loop(loop)))

    def test_what_is_read(self):
        loop = read_loop("at in 1/2 to 3\nx in 0 up\nx = 2 at + 1 x every 3 at 2")
        self.assertEqual(loop.names, ("at", "x"))
        self.check_is_ratio(loop.range_of("at")[0], Ratio(1, 2))
        self.check_is_ratio(loop.range_of("at")[1], 3)
        self.assertIsNone(loop.range_of("x")[1])
        self.assertEqual(loop.body, (("x", Sum(at=2, x=1), 3, 2),))
        self.check_same(loop.period, 3)

    def test_bad_texts(self):
        for text in BAD_TEXTS:
            self.check_error(InvalidText, {"text": text}, read_loop, text)
            self.check_error(InvalidText, {"text": text}, read_loop, text=text)

    def test_changed_texts(self):
        """A text with one character more or less is read only if it is written just so."""
        for text in GOOD_TEXTS[3:12]:
            for at in range(len(text) + 1):
                for changed in [text[:at] + text[at + 1:]] + [text[:at] + sign + text[at:] for sign in " 1/-x\n+="]:
                    try:
                        loop = read_loop(changed)
                    except InvalidText as error:
                        self.assertIs(error.text, changed)
                        self.assertFalse(self.is_plain_text(changed), changed)
                    else:
                        self.check_same(write_loop(loop), changed)

    def is_plain_text(self, text):
        """Whether this is surely the text of a loop: one variable x, and one assignment x = C x at most."""
        return re.fullmatch("x in -?[1-9](\nx = -?[1-9] x)?", text) is not None

    def test_lines_one_after_the_other(self):
        good = 0
        for chosen in itertools.product(LINES, repeat=3):
            text = "\n".join(chosen)
            try:
                self.check_text(text)
                good += 1
            except InvalidText as error:
                self.assertIs(error.text, text)
        self.assertGreater(good, 30)

    def test_twelve_assignments(self):
        lines = ["x in 1", "y in 1"] + [f"{name} = {at} every 6 at {at}" for at in range(6) for name in "xy"]
        self.check_text("\n".join(lines))
        text = "\n".join(["x in 1", "y in 1", "z in 1"] + lines[2:])
        self.check_text(text)
        self.check_error(InvalidText, {"text": (text := text + "\nz = 1")}, read_loop, text)

    def test_values_that_are_no_texts(self):
        for value in ODD_VALUES + (Loop(x=1), Ratio(1), b"x in 1", ["x in 1"], ("x in 1",), nested(70)):
            self.check_error(InvalidText, {"text": value}, read_loop, value)
