"""Every name of the interface is defined in its place, with the parameters that the document tells."""

import ast
import importlib
import unittest

from tests.test_language import read

LIMITS = {"VARIABLES": 6, "LENGTH": 12, "PERIOD": 6, "ROUNDS": 1000, "BASES": 12, "PLAIN": 1000, "SMALL": 9}
ERRORS = {
    "InputError": ("ValueError", {
        "InvalidNumber": "number", "InvalidRatio": "value", "InvalidName": "name", "InvalidRange": "name",
        "InvalidSum": "value", "InvalidBases": "index", "InvalidValues": "index", "InvalidDeeds": "index",
        "InvalidText": "text", "InvalidCommand": "command", "NotASum": "value", "NotALoop": "value",
        "UnlikeRanges": "name", "ZeroDivisor": "",
    }),
    "StateError": ("LookupError", {
        "UnknownName": "name", "TwiceAssigned": "name", "Ring": "ring", "Refused": "name", "Broken": "rounds, beginning",
        "Busy": "", "NothingToUndo": "",
    }),
    "LimitError": ("ArithmeticError", {"TooMany": "found", "TooLong": "", "TooFar": ""}),
}
FUNCTIONS = {
    "ratios": {"quotient": "one, two"},
    "texts": {"write_loop": "loop", "read_loop": "text"},
    "running": {
        "after": "the_loop, the_rounds, **beginnings", "states": "the_loop, the_rounds, **beginnings",
        "value_after": "loop, total, rounds",
    },
    "structure": {"long_period": "loop", "multipliers": "loop", "bases": "loop", "zeros": "loop", "order": "loop"},
    "rows": {
        "value_at": "bases, values, place", "levels_at": "bases, values, place", "settling_place": "bases, values",
    },
    "closed": {"closed_form": "loop, total, rest, name=None"},
    "holding": {
        "least_at": "loop, total, rounds", "greatest_at": "loop, total, rounds", "holds_always": "loop, total",
        "rounds_where": "loop, total", "first_break": "loop, total",
    },
    "extremes": {"greatest": "loop, total", "least": "loop, total", "least_added": "loop, total"},
    "ends": {"rounds_until": "the_loop, the_guard, **beginnings", "fewest_rounds": "loop, guard"},
    "comparing": {
        "agree": "loop, total, other, other_total", "parting": "loop, total, other, other_total",
        "never_less": "loop, total, other, other_total",
    },
    "checker": {"accepts": "claim, certificate"},
    "certificates": {
        "certify_holding": "loop, total", "certify_greatest": "loop, total",
        "certify_agreement": "loop, total, other, other_total", "certify_settling": "bases, values", "plain_loop": "loop",
        "plain_sum": "total",
    },
}
# Properties have no parameters here; the object itself, or the class, is left out.
CLASSES = {
    ("ratios", "Ratio"): {"__init__": "top, bottom=1", "read": "text", "top": None, "bottom": None},
    ("sums", "Sum"): {
        "__init__": "the_constant=0, **coefficients", "read": "text", "constant": None, "names": None,
        "coefficient_of": "name", "at": "**values",
    },
    ("loops", "Loop"): {
        "__init__": "**ranges", "assign": "name, total, *, every=1, at=0", "drop": "index", "copy": "", "names": None,
        "body": None, "period": None, "range_of": "name",
    },
    ("forms", "Form"): {"__init__": "*terms", "terms": None, "bases": None, "__call__": "t"},
    ("rounds", "Rounds"): {
        "told": "*members", "rests": "modulus, *rests", "modulus": None, "after": "first", "members": "first, many",
        "whole_from": None,
    },
    ("desks", "Desk"): {
        "__init__": "loop", "guards": None, "busy": None, "history": None, "loop": "", "guard": "name, total",
        "free": "name", "assign": "name, total, *, every=1, at=0", "drop": "index", "do_all": "*deeds, watch=None",
        "undo": "*, times=1",
    },
    ("console", "Console"): {"__init__": "", "desk": None, "say": "line"},
}


def definitions(body):
    """The functions and classes of a module or class, by their names."""
    return {node.name: node for node in body if isinstance(node, (ast.FunctionDef, ast.ClassDef))}


def decorators(node):
    return [decorator.id for decorator in node.decorator_list]


def parameters(node, skipped):
    """The text of the parameters of a function, but for so many first ones."""
    arguments = node.args
    arguments.args = arguments.args[skipped:]
    return ast.unparse(arguments).replace("* ,", "*,")


class InterfaceTest(unittest.TestCase):
    def test_limits(self):
        limits = importlib.import_module("loopbounds.limits")
        for name, value in LIMITS.items():
            self.assertEqual(getattr(limits, name), value)

    def test_errors(self):
        errors = importlib.import_module("loopbounds.errors")
        defined = definitions(ast.parse(read("errors.py")).body)
        wanted = {}
        for base, (above, kinds) in ERRORS.items():
            wanted[base] = above
            for kind in kinds:
                wanted[kind] = base
        self.assertEqual({name: node.bases[0].id for name, node in defined.items()}, wanted)
        for _, kinds in ERRORS.values():
            for kind, fields in kinds.items():
                names = [name for name in fields.split(", ") if name]
                values = [object() for _ in names]
                for error in (getattr(errors, kind)(*values), getattr(errors, kind)(**dict(zip(names, values)))):
                    self.assertEqual(vars(error), dict(zip(names, values)))

    def test_functions(self):
        for module, functions in FUNCTIONS.items():
            defined = definitions(ast.parse(read(module + ".py")).body)
            for name, wanted in functions.items():
                self.assertIn(name, defined, module)
                self.assertIsInstance(defined[name], ast.FunctionDef)
                self.assertEqual(parameters(defined[name], 0), wanted, (module, name))
                self.assertTrue(callable(getattr(importlib.import_module("loopbounds." + module), name)))

    def test_classes(self):
        for (module, name), methods in CLASSES.items():
            defined = definitions(ast.parse(read(module + ".py")).body)
            self.assertIsInstance(defined[name], ast.ClassDef)
            own = definitions(defined[name].body)
            for method, wanted in methods.items():
                self.assertIn(method, own, name)
                if wanted is None:
                    self.assertEqual(decorators(own[method]), ["property"], (name, method))
                else:
                    skipped = 0 if decorators(own[method]) == ["staticmethod"] else 1
                    self.assertEqual(parameters(own[method], skipped), wanted, (name, method))

    def test_the_kinds_of_methods(self):
        for (module, name), methods in CLASSES.items():
            own = definitions(definitions(ast.parse(read(module + ".py")).body)[name].body)
            for method in methods:
                wanted = {"read": ["classmethod"], "told": ["staticmethod"], "rests": ["staticmethod"]}.get(method, [])
                if methods[method] is not None:
                    self.assertEqual(decorators(own[method]), wanted, (name, method))
