"""The interface as a whole: names, arguments, where they are defined, and [1] to [6] over the whole program."""

import ast
import copy
import importlib
import inspect
import pathlib
import unittest

from onlyheard import errors
from onlyheard.knots import knot_fault
from onlyheard.overhearing import least_deaf, least_over
from onlyheard.picks import alone, breaking, fixed, fixed_play, least_home, needed, struck
from onlyheard.plans import plan_fault
from onlyheard.rewriting import as_routine, in_turn
from onlyheard.routines import Routine
from onlyheard.sittings import Sitting, tried
from onlyheard.texts import play_text, read_play, read_routine, routine_text
from onlyheard.worlds import first_world, led
from onlyheard.writing import written
from planned import EXAMPLE, example_knot, example_plan
from samples import ERROR_NAMES, example_play

PACKAGE = pathlib.Path(__file__).resolve().parent.parent / "onlyheard"
FUNCTIONS = {
    "stands": ["begun(routine)", "picked(routine, stand, k)", "told(routine, stand)",
               "heard(routine, stand, port, digit)",
               "tells(routine, stand)", "listens(routine, stand)", "choices(routine, stand)"],
    "worlds": ["first_world(play)", "moves(play, world)", "behind(play, world, move)", "is_failed(play, world)",
               "is_stuck(play, world)", "led(play, run)", "worlds(play)"],
    "notices": ["notice(play, world, move)", "noticed(play, run)", "may_be(play, row)"],
    "knowing": ["knows(play, row, fact)", "knows_fault(play, row, fact, answer)"],
    "plans": ["plan_fault(play, aim, plan)"],
    "knots": ["knot_fault(play, aim, knot)"],
    "writing": ["written(play, aim)"],
    "rewriting": ["as_routine(play, plan)", "in_turn(play, names, aim)"],
    "picks": ["breaking(play, aim)", "fixed(play, aim)", "fixed_play(play, picks)", "least_home(play, *, most=12)",
              "struck(play, path, k)", "needed(play, aim)", "alone(play, aim)"],
    "overhearing": ["least_over(play, aim)", "least_deaf(play, aim)"],
    "sittings": ["tried(sitting, run)"],
    "texts": ["routine_text(routine)", "play_text(play)", "read_routine(text)", "read_play(text)"],
}
CLASSES = {
    ("routines", "Routine"): ["__init__(self, block)", "names(self)", "ports(self)", "paths(self)", "open_lines(self)",
                              "statement(self, path)", "__eq__(self, other)"],
    ("plays", "Play"): ["__init__(self, routines, own, over=())", "names(self)", "ports(self)", "with_over(self, over)",
                        "with_own(self, routine)", "__eq__(self, other)"],
    ("sittings", "Sitting"): ["__init__(self, play, plan=None)", "moves(self)", "do(self, move)", "back(self)",
                              "may_be(self)",
                              "knows(self, fact)", "trial(self, run)", "__iadd__(self, run)", "__len__(self)",
                              "__contains__(self, fact)", "__enter__(self)", "__exit__(self, kind, error, trace)"],
}
PLAN = example_plan()
RUN = [("pick", "foe", 1), ("tell", "foe", "us", "p"), ("pick", "us", 1), ("tell", "us", "foe", "q")]


def defined(module):
    """The names of the functions and classes that the file of a module defines itself."""
    return [node.name for node in ast.parse((PACKAGE / (module + ".py")).read_text()).body if hasattr(node, "name")]


class Interface(unittest.TestCase):
    def test_functions(self):
        for module, wanted in FUNCTIONS.items():
            for text in wanted:
                name = text.split("(")[0]
                found = getattr(importlib.import_module(f"onlyheard.{module}"), name)
                self.assertEqual(name + str(inspect.signature(found)), text)
                self.assertIn(name, defined(module))

    def test_classes(self):
        for (module, name), wanted in CLASSES.items():
            self.assertIn(name, defined(module))
            found = getattr(importlib.import_module(f"onlyheard.{module}"), name)
            for text in wanted:
                method = text.split("(")[0]
                self.assertIn(method, vars(found))
                self.assertEqual(method + str(inspect.signature(vars(found)[method])), text)

    def test_attributes(self):
        for thing, names in ((Routine(()), ["block"]), (EXAMPLE, ["routines", "own", "over"]),
                             (Sitting(EXAMPLE), ["play", "world", "run", "row"])):
            for name in names:
                self.assertTrue(hasattr(thing, name))

    def test_errors(self):
        self.assertEqual(len(ERROR_NAMES), 23)
        self.assertEqual(sorted(defined("errors")), sorted(["HeardError"] + ERROR_NAMES))
        for name in ERROR_NAMES:
            kind = getattr(errors, name)
            self.assertEqual(kind.__bases__, (errors.HeardError,))
            for value in (None, 0, (1,), [], "a", EXAMPLE):
                self.assertIs(kind(value).what, value)
                self.assertIs(kind(what=value).what, value)
            self.assertIsNone(kind().what)
        self.assertEqual(errors.HeardError.__bases__, (ValueError,))

    def test_all_that_the_overview_names(self):
        word, plan = written(EXAMPLE, 2)
        self.assertEqual([word, plan_fault(EXAMPLE, 2, plan)], ["plan", None])
        word, knot = written(EXAMPLE, 1)
        self.assertEqual([word, knot_fault(EXAMPLE, 1, knot)], ["knot", None])
        routine = as_routine(EXAMPLE, plan)
        self.assertEqual(routine.open_lines(), [])
        self.assertEqual(read_routine(routine_text(routine)), routine)
        done = EXAMPLE.with_own(routine)
        self.assertEqual(read_play(play_text(done)), done)
        self.assertIsNone(breaking(done, 2))
        self.assertEqual([least_over(EXAMPLE, 2), least_deaf(EXAMPLE, 2)], [[()], []])
        self.assertEqual([needed(EXAMPLE, 2), fixed(EXAMPLE, 2), least_home(EXAMPLE)], [[((1,), 1)], {(1,): 1}, 2])
        self.assertEqual(tried(Sitting(EXAMPLE, plan), RUN)[1], led(EXAMPLE, RUN)[-1])


class Unchanged(unittest.TestCase):
    def test_nothing_that_was_passed_changes(self):
        play, plan, knot = example_play(), example_plan(), example_knot()
        run, names, picks = list(RUN), ["us"], {(1,): 1}
        before = copy.deepcopy([plan, knot, run, names, picks])
        calls = [
            lambda: plan_fault(play, "safe", plan), lambda: knot_fault(play, 1, knot), lambda: as_routine(play, plan),
            lambda: in_turn(play, names, 2)[0], lambda: fixed_play(play, picks), lambda: struck(play, (1,), 0),
            lambda: least_home(play), lambda: needed(play, 2), lambda: alone(play, 2), lambda: breaking(play, 1),
            lambda: least_over(play, "going"), lambda: least_deaf(play, 1), lambda: tried(Sitting(play, plan), run),
            lambda: play_text(play), lambda: first_world(play), lambda: written(play, 2), lambda: fixed(play, 2),
        ]
        first = [call() for call in calls]
        self.assertEqual([call() for call in reversed(calls)], first[::-1])
        self.assertEqual([plan, knot, run, names, picks], before)
        self.assertEqual(play, example_play())
        self.assertEqual(vars(play).keys(), vars(example_play()).keys())

    def test_a_sitting_is_equal_to_itself_alone(self):
        one = Sitting(EXAMPLE)
        self.assertEqual(one, one)
        self.assertNotEqual(one, Sitting(EXAMPLE))
        self.assertEqual(PLAN, example_plan())


if __name__ == "__main__":
    unittest.main()
