"""The worked examples of the document, word for word, and those of README.md."""

import doctest
import os
import unittest

EXAMPLES = '''
>>> from loopbounds.ratios import Ratio, quotient
>>> r = Ratio(7, 2)
>>> [str(1 - r * 2), str(quotient(3, r)), r // 1, str(-r % 2), str(abs(-r)), str(r ** 3), 3 > r, r == Ratio(14, 4), repr(Ratio.read("3"))]
['-6', '6/7', 3, '1/2', '7/2', '343/8', False, True, 'Ratio(3, 1)']

>>> from loopbounds.ratios import Ratio
>>> from loopbounds.sums import Sum
>>> x, y = Sum(x=1), Sum(y=1)
>>> total = 3 - (x * 2 + y - 1) * Ratio(1, 4)
>>> [str(total), str(total.at(x=1, y=3, z=0)), total.names, str(x - x), total == Sum.read("-1/2 x + -1/4 y + 13/4")]
['-1/2 x + -1/4 y + 13/4', '2', ('x', 'y'), '0', True]

>>> from loopbounds.loops import Loop
>>> from loopbounds.ratios import Ratio
>>> loop = Loop(x=(0, 10), y=5)
>>> loop.assign("x", loop["x"] * Ratio(3, 2) - loop["y"] + 4)
>>> loop.assign("y", loop["y"] + 2)
>>> loop.assign("y", 0, every=2)
raises TwiceAssigned(name='y')

>>> from loopbounds.loops import Loop
>>> loop = Loop(x=(0, None), y=1)
>>> loop.assign("x", loop["x"] - 7, every=3, at=2)
>>> loop.assign("x", loop["x"] + 5, every=3)
>>> loop.assign("y", 2 * loop["y"] + loop["x"])
>>> [loop.names, loop.period, loop.body[1][0], str(loop.body[1][1]), loop.body[1][2:], str(loop.body[2][1]), loop.range_of("x")[1], "x" in loop, "z" in loop]
[('x', 'y'), 3, 'x', '1 x + 5', (3, 0), '1 x + 2 y', None, True, False]

>>> from loopbounds.texts import read_loop, write_loop
>>> text = "x in -1 to 1/2\\ny in 0 up\\nx = 2 x\\ny = 1 x + 1 every 2 at 1"
>>> [write_loop(read_loop(text)) == text, read_loop(text).body[1][2:]]
[True, (2, 1)]

>>> from loopbounds.loops import Loop
>>> from loopbounds.running import after, states, value_after
>>> loop = Loop(x=(0, None), y=1)
>>> loop.assign("x", 2 * loop["x"] - 1)
>>> loop.assign("y", loop["y"] + loop["x"], every=2, at=1)
>>> [str(value_after(loop, loop["x"] + loop["y"], 2)), repr(after(loop, 2, x=3, y=1)), len(list(states(loop, 4, y=0, x=0)))]
['8 x + 1 y + -6', "(('x', Ratio(9, 1)), ('y', Ratio(10, 1)))", 5]

>>> from loopbounds.loops import Loop
>>> from loopbounds.ratios import Ratio
>>> from loopbounds.structure import bases, long_period, multipliers, order, zeros
>>> loop = Loop(a=1, b=1, c=1)
>>> loop.assign("a", loop["b"] - 2 * loop["a"])
>>> loop.assign("b", loop["c"] + 1)
>>> [long_period(loop), repr(multipliers(loop)), repr(bases(loop)), zeros(loop), order(loop)]
[2, "(('a', Ratio(4, 1)), ('b', Ratio(0, 1)), ('c', Ratio(1, 1)))", '(Ratio(1, 1), Ratio(1, 1), Ratio(4, 1))', 1, ('c', 'b', 'a')]

>>> from loopbounds.rows import levels_at, settling_place, value_at
>>> [str(value_at((1, 2), (1, -1), 5)), repr(levels_at((1, 2), (1, -1), 1)), settling_place((1, 2), (1, -1)), settling_place((1, 1, 2), (1, -1, -2)), settling_place((1, 3), (0, 0))]
['-61', '(Ratio(-1, 1), Ratio(-4, 1))', (1, -1), (4, 1), (0, 1)]

>>> from loopbounds.forms import Form
>>> two, t = Form((1, 0, 2)), Form((1, 1, 1))
>>> [str(two * 3 - t ** 2 * two), str(two << 3), str((two + t)(5)), t < two, t * 2 < two, 1 <= two, str(t << 1), str(t - t)]
['3 2^t + -1 t^2 2^t', '8 2^t', '37', True, False, True, '1 + 1 t^1', '0']

>>> from loopbounds.closed import closed_form
>>> from loopbounds.loops import Loop
>>> loop = Loop(x=(0, None), y=1)
>>> loop.assign("x", 2 * loop["x"] - 1)
>>> loop.assign("y", loop["y"] + 3)
>>> [str(closed_form(loop, loop["x"] + loop["y"], 0)), str(closed_form(loop, loop["x"], 0, "x")), str(closed_form(loop, loop["x"], 0, "y"))]
['1 + 3 t^1 + -1 2^t', '1 2^t', '0']

>>> from loopbounds.rounds import Rounds
>>> some = Rounds.rests(3, 1) | Rounds.told(0, 2)
>>> [list(some.members(0, 5)), 5 in some, some.whole_from, (some ^ Rounds.rests(1, 0)).after(0), Rounds.rests(6, 1, 4) == Rounds.rests(3, 1)]
[[0, 1, 2, 4, 7], False, None, 3, True]

>>> from loopbounds.holding import first_break, greatest_at, holds_always, least_at, rounds_where
>>> from loopbounds.loops import Loop
>>> loop = Loop(x=(1, 3), y=0)
>>> loop.assign("x", 2 * loop["x"] - 1)
>>> loop.assign("y", loop["y"] + 3)
>>> [holds_always(loop, loop["x"] - 1), first_break(loop, 10 - loop["x"])[0], str(least_at(loop, loop["x"] - loop["y"], 2)), str(greatest_at(loop, loop["x"], 3)), rounds_where(loop, 10 - loop["x"]) == rounds_where(loop, 13 - loop["x"])]
[True, 3, '-5', '17', True]

>>> from loopbounds.extremes import greatest, least, least_added
>>> from loopbounds.loops import Loop
>>> from loopbounds.ratios import Ratio
>>> loop = Loop(x=(90, 100), y=(0, None))
>>> loop.assign("x", loop["x"] * Ratio(1, 2) + 30)
>>> loop.assign("y", loop["y"] + 1)
>>> [repr(greatest(loop, loop["x"])[:2]), repr(least(loop, loop["x"])), repr(greatest(loop, loop["y"])), repr(least(loop, -loop["x"] - loop["y"])), str(least_added(loop, loop["x"] - 70))]
['(Ratio(100, 1), 0)', '(Ratio(60, 1), None, None)', '(None, 0, None)', '(None, 0, None)', '10']

>>> from loopbounds.ends import fewest_rounds, rounds_until
>>> from loopbounds.loops import Loop
>>> loop = Loop(x=(1, 3))
>>> loop.assign("x", 2 * loop["x"] - 1)
>>> [rounds_until(loop, 100 - loop["x"], x=2), rounds_until(loop, 100 - loop["x"], x=1), fewest_rounds(loop, 100 - loop["x"])]
[7, None, 6]

>>> from loopbounds.comparing import agree, never_less, parting
>>> from loopbounds.loops import Loop
>>> one, two = Loop(x=(0, 5), y=0), Loop(x=(0, 5), y=0)
>>> one.assign("x", 2 * one["x"] + 1)
>>> two.assign("x", 4 * two["x"] + 3, every=2)
>>> [agree(one, one["x"], two, two["x"]), parting(one, one["x"], two, two["x"])[0], never_less(two, two["x"], one, one["x"]), agree(one, one["x"] - one["x"], two, two["y"])]
[False, 1, True, True]

>>> from loopbounds.desks import Desk
>>> from loopbounds.loops import Loop
>>> desk = Desk(Loop(x=(0, 10), y=1))
>>> x, y = desk.loop()["x"], desk.loop()["y"]
>>> done = desk.do_all(("guard", "low", x), ("assign", "x", x + y, 1, 0), ("assign", "y", y + 1, 1, 0))
>>> desk.undo()
>>> [done, len(desk.history), desk.guards[0][0], str(desk.guards[0][1]), len(desk.loop().body)]
[3, 2, 'low', '1 x', 1]

>>> from loopbounds.desks import Desk
>>> from loopbounds.loops import Loop
>>> desk = Desk(Loop(x=(0, 10)))
>>> desk.guard("low", desk.loop()["x"])
>>> desk.assign("x", desk.loop()["x"] - 1)
raises Refused(name='low')

>>> from loopbounds.certificates import certify_holding, certify_settling, plain_loop
>>> from loopbounds.checker import accepts
>>> from loopbounds.loops import Loop
>>> loop = Loop(x=(1, 3))
>>> loop.assign("x", 2 * loop["x"] - 1)
>>> claim, certificate = certify_holding(loop, loop["x"] - 1)
>>> [plain_loop(loop), claim[2], certificate, accepts(claim, certificate), certify_holding(loop, 10 - loop["x"])[0][3], certify_settling((1, 2), (1, -1))]
[((('x', (1, 1), (3, 1)),), (('x', ((-1, 1), (('x', (2, 1)),)), 1, 0),)), ((-1, 1), (('x', (1, 1)),)), ((0, 0),), True, 3, (('settled', ((1, 1), (2, 1)), ((1, 1), (-1, 1)), 1, -1), ())]

>>> from loopbounds.console import Console
>>> console = Console()
>>> [console.say("loop x in 1 to 3"), console.say("x = 2 x + -1"), console.say("guard low 1 x"), console.say("holds -1 x + 10"), console.say("greatest 1 x"), console.say("value 1 x 3"), console.say("show")]
['ok', 'ok', 'ok', 'not after 3 rounds', 'without bound', '8 x + -7', 'x in 1 to 3; x = 2 x + -1']
'''

README = os.path.join(os.path.dirname(os.path.dirname(os.path.abspath(__file__))), "README.md")


class ExamplesTest(unittest.TestCase):
    def answer(self, line, names):
        """What the line gives, as the document writes it; nothing for None and for lines that are no expressions."""
        try:
            code = compile(line, "example", "eval")
        except SyntaxError:
            exec(line, names)
            return ""
        try:
            found = eval(code, names)
        except Exception as error:
            fields = [f"{field}={value!r}" for field, value in vars(error).items()]
            return f"raises {type(error).__name__}({', '.join(fields)})\n"
        return "" if found is None else f"{found!r}\n"

    def test_the_document(self):
        for text in EXAMPLES.strip().split("\n\n"):
            names = {}
            examples = doctest.DocTestParser().get_examples(text + "\n")
            self.assertTrue(examples[-1].want)
            for example in examples:
                self.assertEqual(self.answer(example.source, names), example.want, example.source)

    def test_readme(self):
        told = []
        with open(README, encoding="utf-8") as file:
            # The fence of an example would else be taken for a part of its answer.
            text = file.read().replace("```", "")
        test = doctest.DocTestParser().get_doctest(text, {}, "README.md", None, 0)
        result = doctest.DocTestRunner(verbose=False).run(test, out=told.append)
        self.assertGreater(result.attempted, 0)
        self.assertEqual(result.failed, 0, "".join(told))
