"""loopbounds.desks: points 3, 5, 16 and 17 and the section on desks, with points 2 to 7 for them."""

import random

from loopbounds.desks import Desk
from loopbounds.errors import (
    Broken, Busy, InvalidDeeds, InvalidName, InvalidNumber, InvalidSum, LimitError, NotALoop, NotASum, NothingToUndo,
    Refused, Ring, StateError, TooFar, TooLong, TooMany, TwiceAssigned, UnknownName,
)
from loopbounds.holding import first_break, holds_always
from loopbounds.loops import Loop
from loopbounds.ratios import Ratio
from loopbounds.sums import Sum
from tests.helping import NO_INTEGERS, NO_NAMES, NO_NUMBERS, ODD_VALUES, Checks, nested
from tests.models import loop_of, random_model, random_parts, sum_of
from tests.test_loops import state
from tests.test_running import NO_LOOPS

X = Sum(x=1)


def shown(desk):
    """All that a desk tells of itself."""
    guards = [(name, str(total)) for name, total in desk.guards]
    history = [[str(item) if isinstance(item, Sum) else item for item in deed] for deed in desk.history]
    return state(desk.loop()), guards, history, desk.busy


class DeskChecks(Checks):
    def check_unchanged(self, kind, fields, desk, call, *args, **more):
        """The call raises the error, with these very values, and the desk is as before."""
        before = shown(desk)
        self.check_error(kind, fields, call, *args, **more)
        self.assertEqual(shown(desk), before)

    def check_refused(self, name, rounds, desk, call, *args, **more):
        """The call is refused for this guarded sum, which breaks after so many rounds, and the desk is as before."""
        before = shown(desk)
        with self.assertRaises(Refused) as caught:
            call(*args, **more)
        self.assertIs(type(caught.exception), Refused)
        self.assertEqual(vars(caught.exception), {"name": name})
        cause = caught.exception.__cause__
        self.assertIs(type(cause), Broken)
        self.assertEqual(sorted(vars(cause)), ["beginning", "rounds"])
        self.check_same(cause.rounds, rounds)
        self.check_beginning(desk.loop(), cause.beginning)
        self.assertEqual(shown(desk), before)
        return cause.beginning


class DeskTest(DeskChecks):
    def test_a_new_desk(self):
        loop = Loop(x=(0, 10), y=1)
        loop["x"] += 1
        desk = Desk(loop)
        self.check_same(desk.guards, ())
        self.check_same(desk.history, ())
        self.assertIs(desk.busy, False)
        self.assertIs(type(desk.loop()), Loop)
        self.assertEqual(state(desk.loop()), state(loop))
        self.assertEqual(state(Desk(loop=loop).loop()), state(loop))

    def test_loops_change_by_themselves(self):
        loop = Loop(x=(0, 10))
        desk = Desk(loop)
        desk.guard("low", X)
        loop["x"] -= 1
        self.check_same(desk.loop().body, ())
        told = desk.loop()
        told["x"] -= 5
        self.check_same(desk.loop().body, ())
        desk.assign("x", X + 1)
        desk.loop().drop(0)
        self.check_same(len(desk.loop().body), 1)
        self.check_same(len(told.body), 1)
        self.check_same(str(told.body[0][1]), "1 x + -5")
        desk.undo()
        self.check_same(desk.loop().body, ())

    def test_deeds(self):
        desk = Desk(Loop(x=(0, 10), y=(1, None)))
        x, y = desk.loop()["x"], desk.loop()["y"]
        self.assertIsNone(desk.guard("low", x))
        self.assertIsNone(desk.assign("x", x + y, every=2, at=1))
        self.assertIsNone(desk.guard("any", 5))
        self.assertIsNone(desk.assign("y", 3))
        self.assertIsNone(desk.guard("low", x + 1))
        self.assertIsNone(desk.drop(0))
        self.assertIsNone(desk.free("any"))
        self.assertIsNone(desk.assign("x", Ratio(1, 2)))
        self.assertEqual(desk.guards, (("low", x + 1),))
        loop = desk.loop()
        self.assertEqual(loop.body, (("y", Sum(3), 1, 0), ("x", Sum(Ratio(1, 2)), 1, 0)))
        self.assertEqual(desk.history, (
            ("guard", "low", x), ("assign", "x", x + y, 2, 1), ("guard", "any", Sum(5)), ("assign", "y", Sum(3), 1, 0),
            ("guard", "low", x + 1), ("drop", 0), ("free", "any"), ("assign", "x", Sum(Ratio(1, 2)), 1, 0),
        ))
        for deed in desk.history:
            self.assertIs(type(deed), tuple)
        self.assertIs(type(desk.guards[0]), tuple)
        self.assertIs(type(desk.guards[0][1]), Sum)

    def test_arguments_by_name(self):
        desk = Desk(Loop(x=(0, 10)))
        desk.guard(total=X, name="low")
        desk.assign(at=1, every=2, total=X + 1, name="x")
        desk.drop(index=0)
        desk.free(name="low")
        desk.undo(times=2)
        self.assertEqual(desk.history, (("guard", "low", X), ("assign", "x", X + 1, 2, 1)))
        for call in (desk.assign, desk.guard):
            self.assertRaises(TypeError, call, "x", X, 2, 1)
        self.assertRaises(TypeError, desk.undo, 2)

    def test_guards_ascend(self):
        desk = Desk(Loop(x=(0, 10)))
        for name in ("m", "b", "zz", "a", "x", "free"):
            desk.guard(name, X + len(name))
        self.assertEqual([name for name, _ in desk.guards], ["a", "b", "free", "m", "x", "zz"])
        desk.free("m")
        self.assertEqual([name for name, _ in desk.guards], ["a", "b", "free", "x", "zz"])
        desk.undo(times=2)
        self.assertEqual([name for name, _ in desk.guards], ["a", "b", "m", "x", "zz"])

    def test_no_desk_keeps_what_breaks(self):
        """Random deeds: whatever was done, all guarded sums always hold, and undoing leads back."""
        done = refused = 0
        for seed in range(40):
            source, model = random.Random(seed), random_model(seed)
            desk = Desk(Loop(**{name: desk_range for name, desk_range in loop_ranges(model).items()}))
            seen = [shown(desk)]
            for step in range(14):
                kind = source.randrange(4)
                try:
                    if kind == 0:
                        desk.guard(source.choice("abc"), sum_of(random_parts(100 * seed + step, model[0])))
                    elif kind < 3 and model[1]:
                        name, parts, every, at = source.choice(model[1])
                        desk.assign(name, sum_of(parts), every=every, at=at)
                    else:
                        desk.drop(0)
                    done += 1
                    seen.append(shown(desk))
                except (StateError, LimitError, InvalidNumber, InvalidSum) as error:
                    refused += isinstance(error, Refused)
                    self.assertEqual(shown(desk), seen[-1])
                for _, total in desk.guards:
                    self.assertTrue(holds_always(desk.loop(), total))
            for before in reversed(seen[:-1]):
                desk.undo()
                self.assertEqual(shown(desk), before)
        self.assertGreater(done, 100)
        self.assertGreater(refused, 20)


def loop_ranges(model):
    loop = loop_of((model[0], []))
    return {name: loop.range_of(name) for name in loop.names}


class RefusedTest(DeskChecks):
    def test_each_deed(self):
        desk = Desk(Loop(x=(0, 10), y=1))
        y = Sum(y=1)
        self.assertEqual(self.check_refused("low", 0, desk, desk.guard, "low", X - y)[0], ("x", Ratio(0)))
        desk.guard("low", X)
        self.check_refused("low", 0, desk, desk.guard, "low", X - 1)
        desk.assign("x", X + y)
        # From 0 on, x is 1, 1, 0 and -2 then.
        self.check_refused("low", 4, desk, desk.assign, "y", y - 1)
        self.check_refused("no", 2, desk, desk.guard, "no", 20 - X - 9 * y)
        desk.assign("y", y + 1)
        desk.guard("grown", X + y)
        self.check_refused("grown", 1, desk, desk.do_all, ("free", "low"), ("drop", 0), ("assign", "x", -X, 1, 0))
        desk.drop(0)
        desk.drop(0)
        self.check_refused("grown", 2, desk, desk.assign, "x", X - 1)
        desk.free("low")
        desk.free("grown")
        desk.assign("x", X - 1)

    def test_dropping(self):
        desk = Desk(Loop(x=(0, 10)))
        desk.assign("x", X + 1, every=2)
        desk.assign("x", X - 1, every=2, at=1)
        desk.guard("low", X)
        self.check_refused("low", 2, desk, desk.drop, 0)
        desk.drop(1)
        desk.drop(0)
        self.check_same(len(desk.history), 5)

    def test_the_least_name(self):
        desk = Desk(Loop(x=(0, 10)))
        for name, total in (("m", X + 3), ("z", X), ("b", 100 - X), ("a", X + 10), ("c", X + 20)):
            desk.guard(name, total)
        self.check_refused("a", 11, desk, desk.assign, "x", X - 1)
        desk.free("a")
        self.check_refused("c", 21, desk, desk.assign, "x", X - 1)
        desk.free("c")
        self.check_refused("m", 4, desk, desk.assign, "x", X - 1)
        self.check_refused("b", 91, desk, desk.assign, "x", X + 1)

    def test_what_first_break_returns(self):
        for seed in range(60):
            model = random_model(seed)
            loop, total = loop_of(model), sum_of(random_parts(seed, model[0]))
            desk = Desk(loop)
            try:
                found = first_break(loop, total)
            except TooFar:
                self.check_unchanged(TooFar, {}, desk, desk.guard, "g", total)
                continue
            if found is None:
                desk.guard("g", total)
            else:
                self.assertEqual(self.check_refused("g", found[0], desk, desk.guard, "g", total), found[1])

    def test_far_comes_ahead_of_refused(self):
        desk = Desk(Loop(x=0, y=0))
        y = Sum(y=1)
        desk.guard("a", X)
        desk.guard("z", y + 10 ** 6)
        # Each of both would be refused, or told to be too far out, by itself.
        self.check_refused("a", 1, desk, desk.assign, "x", X - 1)
        self.check_unchanged(TooFar, {}, desk, desk.assign, "y", y - 1)
        desk.assign("y", y + X)
        self.check_unchanged(TooFar, {}, desk, desk.assign, "x", X - 1)
        desk.free("z")
        self.check_refused("a", 1, desk, desk.assign, "x", X - 1)

    def test_far(self):
        desk = Desk(Loop(x=0))
        desk.assign("x", X + 1)
        desk.guard("a", X - X)
        self.check_unchanged(TooFar, {}, desk, desk.guard, "a", X - 1001)
        self.check_refused("a", 0, desk, desk.guard, "a", X - 1000)
        self.check_refused("a", 1000, desk, desk.guard, "a", 999 - X)

    def test_an_old_name_is_guarded_anew(self):
        desk = Desk(Loop(x=(0, 10)))
        desk.guard("low", X)
        desk.guard("low", X + 5)
        self.check_refused("low", 6, desk, desk.assign, "x", X - 1)
        self.check_refused("low", 0, desk, desk.guard, "low", 5 - X)
        self.assertEqual(desk.guards, (("low", X + 5),))
        desk.undo()
        self.assertEqual(desk.guards, (("low", X),))


class ErrorsTest(DeskChecks):
    def test_new_desks(self):
        for value in NO_LOOPS + (Desk(Loop(x=1)),):
            self.check_error(NotALoop, {"value": value}, Desk, value)

    def test_guarding_and_freeing(self):
        desk = Desk(Loop(x=1))
        desk.guard("b", X)
        for value in NO_NAMES:
            self.check_unchanged(InvalidName, {"name": value}, desk, desk.guard, value, None)
            self.check_unchanged(InvalidName, {"name": value}, desk, desk.free, value)
        for value in NO_NUMBERS + (nested(70), desk):
            self.check_unchanged(NotASum, {"value": value}, desk, desk.guard, "a", value)
        self.check_unchanged(UnknownName, {"name": "a"}, desk, desk.guard, "x", Sum(-1, x=1, z=1, a=1))
        for name in ("a", "x", "guard", "c"):
            self.check_unchanged(UnknownName, {"name": name}, desk, desk.free, name)

    def test_assigning(self):
        desk = Desk(Loop(x=(1, 2), y=1))
        desk.guard("low", X)
        y = Sum(y=1)
        for value in NO_NAMES:
            self.check_unchanged(InvalidName, {"name": value}, desk, desk.assign, value, None, every=0, at=7)
        self.check_unchanged(UnknownName, {"name": "low"}, desk, desk.assign, "low", None, every=0, at=7)
        for value in NO_NUMBERS + (nested(70),):
            self.check_unchanged(NotASum, {"value": value}, desk, desk.assign, "x", value, every=0, at=7)
        self.check_unchanged(UnknownName, {"name": "a"}, desk, desk.assign, "x", Sum(1001, z=1, a=1), every=0, at=7)
        for total in (1001, -1001, Ratio(1, 10), 10 * X, Ratio(1, 10) * X, 1001 * y):
            self.check_unchanged(InvalidSum, {"value": total}, desk, desk.assign, "x", total, every=0, at=7)
        for value in NO_INTEGERS + (0, 7, -1):
            self.check_unchanged(InvalidNumber, {"number": value}, desk, desk.assign, "x", -1, every=value, at=7)
        for value in NO_INTEGERS + (-1, 2, 7):
            self.check_unchanged(InvalidNumber, {"number": value}, desk, desk.assign, "x", -1, every=2, at=value)
        desk.assign("x", X + y, every=4)
        self.check_unchanged(TwiceAssigned, {"name": "x"}, desk, desk.assign, "x", -1, every=2)
        self.check_unchanged(TooMany, {"found": 12}, desk, desk.assign, "y", X - 10 ** 3, every=3)
        before = shown(desk)
        with self.assertRaises(Ring) as caught:
            desk.assign("y", X - 1000)
        self.assertEqual(sorted(caught.exception.ring), ["x", "y"])
        self.assertEqual(shown(desk), before)

    def test_a_full_body(self):
        desk = Desk(Loop(a=1, b=1))
        for name in "ab":
            for at in range(6):
                desk.assign(name, at, every=6, at=at)
        self.check_unchanged(TooLong, {}, desk, desk.assign, "a", 1)
        self.check_unchanged(TooLong, {}, desk, desk.do_all, ("drop", 0), ("assign", "a", 1, 6, 0), ("assign", "b", 1, 6, 0))

    def test_dropping(self):
        desk = Desk(Loop(x=(1, 2)))
        desk.assign("x", X + 1)
        desk.guard("low", X)
        for value in NO_INTEGERS + (-1, 1, 7, 10 ** 30):
            self.check_unchanged(InvalidNumber, {"number": value}, desk, desk.drop, value)

    def test_errors_of_the_method_come_ahead(self):
        desk = Desk(Loop(x=0, y=0))
        desk.assign("x", X + 1)
        desk.guard("low", X)
        self.check_unchanged(TwiceAssigned, {"name": "x"}, desk, desk.assign, "x", X - 1)
        self.check_unchanged(UnknownName, {"name": "z"}, desk, desk.guard, "low", Sum(z=1) - 5000)


class DoAllTest(DeskChecks):
    def test_all(self):
        desk = Desk(Loop(x=(0, 10), y=1))
        y = Sum(y=1)
        self.check_same(desk.do_all(), 0)
        deeds = (("guard", "low", X), ("assign", "x", X + y, 2, 1), ("assign", "y", 4, 1, 0), ("drop", 0), ("free", "low"))
        self.check_same(desk.do_all(*deeds), 5)
        wanted = tuple(tuple(Sum(4) if item == 4 and deed[0] == "assign" else item for item in deed) for deed in deeds)
        self.assertEqual(desk.history, wanted)
        self.check_same(desk.guards, ())
        self.assertEqual(desk.loop().body, (("y", Sum(4), 1, 0),))
        self.check_same(desk.do_all(("guard", "a", X), watch=None), 1)

    def test_none(self):
        desk = Desk(Loop(x=(0, 10), y=1))
        desk.guard("low", X)
        fine = ("assign", "x", X + 1, 2, 0), ("guard", "more", X + 1), ("free", "low")
        for deed, kind, fields in (
            (("assign", "x", X, 2, 0), TwiceAssigned, {"name": "x"}), (("drop", 1), InvalidNumber, {"number": 1}),
            (("free", "low"), UnknownName, {"name": "low"}), (("guard", "a", None), NotASum, {"value": None}),
            (("assign", "x", X, True, 0), InvalidNumber, {"number": True}), (("free", 3), InvalidName, {"name": 3}),
            (("guard", "a", Sum(q=1)), UnknownName, {"name": "q"}),
            (("assign", "z", X, 1, 0), UnknownName, {"name": "z"}),
        ):
            self.check_unchanged(kind, fields, desk, desk.do_all, *fine, deed, ("drop", None))
        self.check_refused("more", 2, desk, desk.do_all, *fine, ("drop", 0), ("assign", "x", X - 1, 1, 0))
        self.check_refused("low", 0, desk, desk.do_all, *fine, ("guard", "low", X - 1))
        self.check_unchanged(TooFar, {}, desk, desk.do_all, *fine, ("guard", "far", X - 5000))
        self.check_same(desk.do_all(*fine), 3)

    def test_one_deed_after_the_other(self):
        """What only holds behind a later deed is refused, and what only holds between them is done."""
        desk = Desk(Loop(x=(0, 10), y=1))
        self.check_refused("a", 0, desk, desk.do_all, ("guard", "a", X - 1), ("free", "a"))
        desk.do_all(("guard", "a", X), ("free", "a"), ("assign", "x", X - 1, 1, 0))
        self.check_refused("a", 1, desk, desk.do_all, ("guard", "a", X), ("drop", 0))
        desk.do_all(("drop", 0), ("guard", "a", X), ("assign", "x", X + 1, 1, 0), ("drop", 0))

    def test_invalid_deeds(self):
        desk = Desk(Loop(x=(0, 10)))
        fine = ("guard", "low", X), ("drop", 0), ("free", None), ("assign", None, None, None, None)
        wrong = tuple(value for value in ODD_VALUES) + (
            ("guard",), ("guard", "a"), ("guard", "a", X, 1), ("free",), ("free", "a", 1), ("assign", "x", X),
            ("assign", "x", X, 1), ("assign", "x", X, 1, 0, 0), ("drop",), ("drop", 0, 0), ("undo",), ("loop",),
            ("Drop", 0),
            ("drop ", 0), ["drop", 0], (["drop"], 0), (b"drop", 0), (None, 0), ({}, 0),
            ("", 0), "drop", "free", nested(70),
            ("do_all", ("drop", 0)), ((("drop"), 0), 0), (True, 0), (0, 0),
        )
        for value in wrong:
            for place in (0, 2, 4):
                deeds = [*fine[:place], value, *fine[place:], None]
                # The form of all deeds is looked at ahead of the first one.
                self.check_unchanged(InvalidDeeds, {"index": place}, desk, desk.do_all, *deeds)
        self.check_unchanged(InvalidNumber, {"number": 0}, desk, desk.do_all, *fine)

    def test_the_watch_looks(self):
        desk = Desk(Loop(x=(0, 10), y=1))
        seen = []

        def look(other):
            self.assertIs(other, desk)
            self.assertIs(desk.busy, True)
            seen.append(shown(other))

        self.assertEqual(desk.do_all(("guard", "low", X), ("assign", "x", X + 1, 1, 0), ("drop", 0), watch=look), 3)
        self.assertIs(desk.busy, False)
        self.assertEqual([len(history) for _, _, history, _ in seen], [1, 2, 3])
        self.assertEqual([len(loop[2]) for loop, _, _, _ in seen], [0, 1, 0])
        self.assertEqual([guards for _, guards, _, _ in seen], [[("low", "1 x")]] * 3)
        self.check_same(desk.do_all(watch=look), 0)
        self.assertEqual(len(seen), 3)

    def test_the_watch_is_called_before_the_next_deed(self):
        desk = Desk(Loop(x=(0, 10)))
        seen = []
        self.check_refused("low", 1, desk, desk.do_all, ("guard", "low", X), ("guard", "top", 20 - X),
                           ("assign", "x", X - 1, 1, 0), ("free", "top"),
                           watch=lambda other: seen.append(len(other.guards)))
        self.assertEqual(seen, [1, 2])
        self.assertIs(desk.busy, False)
        self.check_unchanged(InvalidDeeds, {"index": 1}, desk, desk.do_all, ("guard", "low", X), (), watch=seen.append)
        self.assertEqual(seen, [1, 2])

    def test_the_watch_tries_deeds(self):
        desk = Desk(Loop(x=(0, 10)))
        tried = []

        def trying(other):
            for call in (
                lambda: other.guard("a", X), lambda: other.guard(None, None), lambda: other.free("low"),
                lambda: other.free(None), lambda: other.assign("x", X), lambda: other.assign(None, None, every=0),
                lambda: other.drop(0), lambda: other.drop(None), lambda: other.undo(), lambda: other.undo(times=0),
                lambda: other.do_all(), lambda: other.do_all(None), lambda: other.do_all(("free", "low"), watch=trying),
            ):
                self.check_unchanged(Busy, {}, desk, call)
                tried.append(call)

        self.check_same(desk.do_all(("guard", "low", X), ("assign", "x", X + 1, 1, 0), watch=trying), 2)
        self.assertEqual(len(tried), 26)
        self.assertEqual(desk.history, (("guard", "low", X), ("assign", "x", X + 1, 1, 0)))
        # Whoever does not catch Busy has it raised through do_all.
        for call in (lambda other: other.undo(), lambda other: other.drop(0), lambda other: other.do_all()):
            self.check_unchanged(Busy, {}, desk, desk.do_all, ("free", "low"), watch=call)
        desk.undo(times=2)
        self.check_same(desk.history, ())

    def test_the_watch_raises(self):
        desk = Desk(Loop(x=(0, 10)))
        desk.guard("low", X)
        desk.assign("x", X + 1)
        deeds = (("guard", "top", X + 5), ("drop", 0), ("free", "low"))
        for error in (KeyError("x"), Refused("low"), ZeroDivisionError(), KeyboardInterrupt(), GeneratorExit(), Busy()):
            for last in (1, 2, 3):
                self.check_watch_raises(desk, deeds, error, last)
        self.check_same(desk.do_all(*deeds), 3)
        desk.undo(times=5)
        self.assertEqual(shown(desk), shown(Desk(Loop(x=(0, 10)))))

    def check_watch_raises(self, desk, deeds, error, last):
        before, calls = shown(desk), []

        def raising(other):
            calls.append(len(other.history))
            if len(calls) == last:
                raise error

        with self.assertRaises(type(error)) as caught:
            desk.do_all(*deeds, watch=raising)
        self.assertIs(caught.exception, error)
        self.assertEqual(calls, [3, 4, 5][:last])
        self.assertEqual(shown(desk), before)

    def test_the_watch_asks_another_desk(self):
        one, two = Desk(Loop(x=(0, 10))), Desk(Loop(x=(0, 10)))
        one.do_all(("guard", "low", X), watch=lambda other: two.guard("also", X))
        self.assertEqual((one.guards, two.guards), ((("low", X),), (("also", X),)))
        one.do_all(("free", "low"), watch=lambda other: two.do_all(("free", "also")))
        self.assertEqual((one.guards, two.guards), ((), ()))


class UndoTest(DeskChecks):
    def test_undo(self):
        desk = Desk(Loop(x=(0, 10)))
        seen = [shown(desk)]
        for deed in (
            ("guard", "low", X), ("assign", "x", X + 1, 1, 0), ("guard", "low", X + 1), ("guard", "b", X),
            ("free", "low"),
            ("drop", 0), ("assign", "x", X, 3, 2),
        ):
            desk.do_all(deed)
            seen.append(shown(desk))
        for times in (1, 2, 3):
            self.assertIsNone(desk.undo(times=times))
            seen = seen[:-times]
            self.assertEqual(shown(desk), seen[-1])
        self.assertIsNone(desk.undo())
        self.assertEqual(shown(desk), seen[0])
        desk.assign("x", X + 2)
        desk.guard("c", X)
        self.assertEqual(desk.history, (("assign", "x", X + 2, 1, 0), ("guard", "c", X)))

    def test_deeds_of_do_all_one_by_one(self):
        desk = Desk(Loop(x=(0, 10)))
        desk.do_all(("guard", "low", X), ("assign", "x", X + 1, 1, 0), ("drop", 0), ("free", "low"))
        desk.undo(times=2)
        self.assertEqual(desk.history, (("guard", "low", X), ("assign", "x", X + 1, 1, 0)))
        self.assertEqual(len(desk.loop().body), 1)
        self.check_refused("low", 1, desk, desk.do_all, ("drop", 0), ("assign", "x", X - 1, 1, 0))
        desk.undo(times=2)
        self.assertEqual(shown(desk), shown(Desk(Loop(x=(0, 10)))))

    def test_errors(self):
        desk = Desk(Loop(x=(0, 10)))
        self.check_unchanged(NothingToUndo, {}, desk, desk.undo)
        desk.guard("low", X)
        desk.free("low")
        for value in NO_INTEGERS + (0, -1, -2):
            self.check_unchanged(InvalidNumber, {"number": value}, desk, desk.undo, times=value)
        for value in (3, 4, 10 ** 30):
            self.check_unchanged(NothingToUndo, {}, desk, desk.undo, times=value)
        desk.undo(times=2)
        self.check_unchanged(NothingToUndo, {}, desk, desk.undo)
