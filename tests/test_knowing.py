"""[18]: facts, what is known of them, and the judge of what was answered."""

import unittest

from onlyheard import knowing as module
from onlyheard.errors import BadFact, BadRow, NoRow, TooMany
from onlyheard.knowing import knows, knows_fault
from onlyheard.notices import may_be, noticed
from onlyheard.plays import Play
from onlyheard.routines import Routine
from onlyheard.worlds import led
from samples import (
    ENDLESS, caught, counted, counter, endless_play, example_play, four_play, listener, wrong_values,
)

HOME = ("home",)
EXAMPLE = example_play()
HEARD = [("heard", "p", 2)]
PICK = ("pick", "foe", 1)
TOLD = ("tell", "foe", "us", "p")
PICKED_2 = ("value", "foe", "x", 2)
CALLS = [knows, lambda play, row, fact: knows_fault(play, row, fact, None)]
WRONG_FACTS = [
    ("value", "foe", "x"), ("value", "foe", "x", 2, 2), ["value", "foe", "x", 2], ("value", "us", "x", 2),
    ("value", "foe", "a", 2), ("value", "foe", "p", 1), ("value", "no", "x", 2), ("value", "foe", "x", 10),
    ("value", "foe", "x", -1), ("value", "foe", "x", True), ("value", "foe", "x", False), ("value", "foe", "x", "2"),
    ("value", "x", "foe", 2), ("value", 2, "x", "foe"), ("Value", "foe", "x", 2), ("value",),
    ("value", ("foe", "x", 2)),
    ("stands", "foe"), ("stands", "foe", (3,)), ("stands", "foe", (3, 1, 0)), ("stands", "foe", (0, 0, 0)),
    ("stands", "foe", (9,)), ("stands", "foe", ()), ("stands", "foe", [0]), ("stands", "foe", 0),
    ("stands", "foe", (-1,)),
    ("stands", "foe", (True,)), ("stands", "foe", (False,)), ("stands", "us", (1, False, 0)),
    ("stands", "us", (1, True, 0)),
    ("stands", "us", (2,)), ("stands", "us", (1, 0, 1)), ("stands", "us", (1, 2, 0)), ("stands", "no", (0,)),
    ("stands", "foe", (0,), (0, 0)), ["stands", "foe", (0,)], ("stands", "foe", ("at", (0,), (0, 0))),
    ("stands", (0,), "foe"), ("at", "foe", (0,)), ("stands", ("foe",), (0,)),
    ("home",), ("home", "no"), ("home", "us", "foe"), ["home", "us"], ("home", ("us",)), ("home", None), ("Home", "us"),
    ("home", 0), ("fail", "us"), ("us", "home"), "home", (), None, True, ("us",), (("home", "us"),), {"home": "us"},
]
RIGHT_FACTS = [
    ("value", "foe", "x", 0), ("value", "foe", "y", 9), ("value", "us", "a", 2), ("stands", "foe", (0,)),
    ("stands", "foe", (1,)), ("stands", "foe", (2,)), ("stands", "us", (0,)), ("stands", "us", (1,)),
    ("stands", "us", (1, 0, 0)), ("stands", "us", (1, 1, 0)), ("home", "us"), ("home", "foe"),
]


def is_so(play, world, fact):
    """The same as [18] says, told once more."""
    stand = world[sorted(play.routines).index(fact[1])]
    if fact[0] == "home":
        return stand[0] == "home"
    if stand[0] in ("home", "fail"):
        return False
    if fact[0] == "stands":
        return stand[1] == fact[2]
    return dict(zip(play.routines[fact[1]].names(), stand[2]))[fact[2]] == fact[3]


class Checked(unittest.TestCase):
    def check(self, play, row, fact):
        """Asks what is known; the word of the answer, which is judged here and by the judge."""
        before = list(row)
        answer = knows(play, row, fact)
        so = {is_so(play, world, fact) for world in may_be(play, row)}
        self.assertIs(type(answer), tuple)
        if so != {True, False}:
            self.assertEqual(answer, ("always",) if so == {True} else ("never",))
        else:
            self.assertEqual([len(answer), answer[0]], [3, "both"])
            for run, wanted in zip(answer[1:], (True, False)):
                self.assertIs(type(run), list)
                self.assertEqual(noticed(play, run), row)
                self.assertIs(is_so(play, led(play, run)[-1], fact), wanted)
            self.assertEqual(knows_fault(play, row, fact, ("both", answer[2], answer[1])), ("fact", 0))
        self.assertIsNone(knows_fault(play, row, fact, answer))
        for word in ("always", "never"):
            if answer != (word,):
                self.assertEqual(knows_fault(play, row, fact, (word,)), ("other",))
        self.assertEqual(row, before)
        return answer[0]


class Knows(Checked):
    def test_values(self):
        for row, fact, wanted in (
            ([], PICKED_2, "both"), ([], ("value", "foe", "x", 0), "both"), ([], ("value", "foe", "x", 3), "never"),
            ([], ("value", "foe", "y", 0), "always"), (HEARD, PICKED_2, "always"),
            (HEARD, ("value", "foe", "x", 1), "never"),
            (HEARD, ("value", "us", "a", 2), "always"), ([], ("value", "us", "a", 2), "never"),
        ):
            self.assertEqual(self.check(EXAMPLE, row, fact), wanted)

    def test_stands(self):
        for row, fact, wanted in (
            ([], ("stands", "foe", (0,)), "both"), ([], ("stands", "foe", (1,)), "both"),
            ([], ("stands", "foe", (2,)), "never"),
            ([], ("stands", "us", (0,)), "always"), ([], ("stands", "us", (1,)), "never"),
            (HEARD, ("stands", "foe", (2,)), "always"), (HEARD + [("pick", 0)], ("stands", "us", (1, 0, 0)), "always"),
            (HEARD + [("pick", 0)], ("stands", "us", (1, 1, 0)), "never"),
        ):
            self.assertEqual(self.check(EXAMPLE, row, fact), wanted)

    def test_home(self):
        right, wrong = (HEARD + [("pick", k), ("told", "q")] for k in (1, 0))
        for row, fact, wanted in (
            ([], ("home", "us"), "never"), (right, ("home", "us"), "always"), (right, ("home", "foe"), "always"),
            (wrong, ("home", "us"), "always"), (wrong, ("home", "foe"), "never"),
        ):
            self.assertEqual(self.check(EXAMPLE, row, fact), wanted)

    def test_home_or_failed_it_stands_nowhere_and_has_no_values(self):
        line = ("open", ((("home",),), (("fail",),), (("tell", "p", 1),)))
        play = Play({"foe": Routine((line,)), "us": Routine(())}, "us")
        self.assertEqual(self.check(play, [], ("home", "foe")), "both")
        self.assertEqual(self.check(play, [], ("stands", "foe", (0,))), "both")
        self.assertEqual(self.check(play, [], ("home", "us")), "always")
        for k in (1, 0):
            row = HEARD + [("pick", k), ("told", "q")]
            for digit in range(10):
                self.assertEqual(self.check(EXAMPLE, row, ("value", "foe", "x", digit)), "never")
            for path in ((0,), (1,), (2,)):
                self.assertEqual(self.check(EXAMPLE, row, ("stands", "foe", path)), "never")

    def test_all_facts_of_a_play(self):
        for over in ((), ("p",), ("p", "q", "r", "s")):
            play = four_play(over)
            words = []
            for row in ([], [("heard", "p", 3)], [("heard", "q", 4)], [("heard", "q", 4), ("told", "r")]):
                for name, routine in play.routines.items():
                    facts = [("home", name)] + [("value", name, n, d) for n in routine.names() for d in range(10)]
                    facts += [("stands", name, path) for path in routine.paths()
                              if routine.statement(path)[0] in ("tell", "hear", "wait", "open")]
                    words += [self.check(play, row, fact) for fact in facts]
            self.assertEqual(set(words), {"always", "never", "both"})

    def test_long_runs(self):
        play = Play({"us": Routine(()), "teller": counter(399), "x": listener()}, "us")
        answer = knows(play, [], ("home", "teller"))
        self.assertEqual(answer[0], "both")
        self.assertEqual(len(answer[1]), 399)
        self.assertEqual(self.check(play, [], ("home", "teller")), "both")
        self.assertEqual(self.check(play, [], ("value", "teller", "c", 9)), "both")

    def test_rows_of_sixty_items(self):
        row = [("heard", "p", k % 10) for k in range(60)]
        self.assertEqual(self.check(counted(399), row, ("value", "teller", "c", 6)), "always")
        self.assertEqual(self.check(counted(60), row, ("home", "teller")), "always")
        self.assertEqual(self.check(counted(61), row, ("home", "teller")), "never")

    def test_many_unseen_moves_between_notices(self):
        # Between two notices the two others deal up to 98 times, so that runs with this row get long.
        bell = Routine((("repeat", (("open", ((("tell", "q", 1),), (("tell", "p", 1),))),)),))
        others = {"bell": bell, "teller": counter(30), "x": listener()}
        play = Play({"us": Routine((("repeat", (("hear", "q", "a"),)),)), **others}, "us")
        row = [("heard", "q", 1)] * 60
        self.assertEqual(self.check(play, row, ("home", "teller")), "both")
        self.assertEqual(self.check(play, row, ("value", "teller", "c", 2)), "both")

    def test_by_name(self):
        self.assertEqual(knows(play=EXAMPLE, row=HEARD, fact=PICKED_2), ("always",))
        self.assertIsNone(knows_fault(play=EXAMPLE, row=HEARD, fact=PICKED_2, answer=("always",)))

    def test_functions_stand_in_their_module(self):
        for name in ("knows", "knows_fault"):
            self.assertEqual(getattr(module, name).__module__, "onlyheard.knowing")


class Faults(unittest.TestCase):
    # Behind the empty row, "foe" has picked 2, 1, or nothing yet.
    so, not_so, nothing = [PICK], [("pick", "foe", 0)], []

    def fault(self, answer, row=(), fact=PICKED_2):
        return knows_fault(EXAMPLE, list(row), fact, answer)

    def test_right_answers(self):
        for other in (self.not_so, self.nothing):
            self.assertIsNone(self.fault(("both", self.so, other)))
        self.assertIsNone(self.fault(("always",), HEARD))
        self.assertIsNone(self.fault(("never",), HEARD, ("value", "foe", "x", 1)))

    def test_any_run_with_the_row_is_right(self):
        play = Play({"us": Routine(()), "teller": counter(20), "x": listener()}, "us")
        move = ("tell", "teller", "x", "p")
        for one in range(10, 20):
            for other in list(range(10)) + [20]:
                answer = ("both", [move] * one, [move] * other)
                self.assertIsNone(knows_fault(play, [], ("value", "teller", "c", 1), answer))

    def test_form(self):
        for answer in wrong_values() + [
            "always", ["always"], ("Always",), ("always", 1), ("never", []), ("never", [], []), ("both",), ("both", []),
            ("both", self.so), ("both", self.so, self.nothing, []), ["both", self.so, self.nothing], ("other",),
            ("form",),
            ("both", (PICK,), []), ("both", self.so, ()), ("both", PICK, []), ("both", [PICK, PICK], []),
            ("both", self.so, [TOLD]), ("both", [("pick", "foe", True)], []),
            ("both", self.so, [("pick", "foe", False)]),
            ("both", [list(PICK)], []), ("both", self.so, [None]), ("always", self.so, []), (("always",),), None,
            ("both", {0: PICK}, []), ("both", self.so, {}), ("both", "", ""), ("knows", self.so, self.nothing),
        ]:
            self.assertEqual(self.fault(answer), ("form",))
            self.assertEqual(self.fault(answer, HEARD), ("form",))

    def test_wrong_values_within_answers(self):
        for value in wrong_values():
            answers = [(value,), (value, self.so, []), ("both", [value], []), ("both", self.so, [value])]
            answers += [("both", [("pick", "foe", value)], []), ("both", self.so, [("pick", value, 1)])]
            answers += [("both", [(value, "foe", 1)], []), ("both", self.so, [], value), ("always", value)]
            if value != []:
                answers += [("both", value, []), ("both", self.so, value)]
            for answer in answers:
                self.assertEqual(self.fault(answer), ("form",))

    def test_row(self):
        heard = self.so + [TOLD]
        for answer, row, wanted in (
            (("both", heard, self.nothing), [], 0), (("both", self.so, heard), [], 1), (("both", heard, heard), [], 0),
            (("both", self.so, heard), HEARD, 0), (("both", heard, self.nothing), HEARD, 1),
            (("both", heard, heard + [("pick", "us", 0)]), HEARD, 1), (("both", self.not_so + [TOLD], heard), HEARD, 0),
        ):
            self.assertEqual(repr(self.fault(answer, row)), repr(("row", wanted)))

    def test_fact(self):
        for answer, wanted in (
            (("both", self.not_so, self.nothing), 0), (("both", self.nothing, self.so), 0),
            (("both", self.so, self.so), 1),
            (("both", self.nothing, self.nothing), 0), (("both", self.not_so, self.so), 0),
        ):
            self.assertEqual(repr(self.fault(answer)), repr(("fact", wanted)))

    def test_other(self):
        for word in ("always", "never"):
            self.assertEqual(self.fault((word,)), ("other",))
        self.assertEqual(self.fault(("never",), HEARD), ("other",))
        self.assertEqual(self.fault(("always",), HEARD, ("value", "foe", "x", 1)), ("other",))
        self.assertEqual(self.fault(("always",), HEARD, ("home", "us")), ("other",))

    def test_both_where_it_is_not(self):
        run = self.so + [TOLD]
        self.assertEqual(self.fault(("both", run, run), HEARD), ("fact", 1))
        self.assertEqual(self.fault(("both", run, run), HEARD, ("value", "foe", "x", 1)), ("fact", 0))

    def test_which_goes_first(self):
        heard = self.so + [TOLD]
        self.assertEqual(self.fault(("both", heard, None)), ("form",))
        self.assertEqual(self.fault(("both", heard, [TOLD])), ("form",))
        self.assertEqual(self.fault(("both", self.nothing, heard)), ("row", 1))
        self.assertEqual(self.fault(("both", heard, self.so)), ("row", 0))
        self.assertEqual(self.fault(("both", self.nothing, self.so)), ("fact", 0))

    def test_runs_of_any_length(self):
        others = endless_play().routines
        play = Play({"us": Routine(()), "teller": others["teller"], "x": others["us"]}, "us")
        move = ("tell", "teller", "x", "p")
        fact = ("value", "x", "x", 1)
        for many in (1, 3500, 30000, 30001):
            self.assertIsNone(knows_fault(play, [], fact, ("both", [move] * many, [])))
            self.assertEqual(knows_fault(play, [], fact, ("both", [move] * many, [move])), ("fact", 1))
            self.assertEqual(knows_fault(play, [], fact, ("both", [move] * many + [None], [])), ("form",))
        answer = ("both", [ENDLESS] * 60, [])
        self.assertEqual(knows_fault(endless_play(), [("heard", "p", 1)], ("home", "us"), answer), ("row", 0))


class Errors(unittest.TestCase):
    def test_right_facts(self):
        for fact in RIGHT_FACTS:
            self.assertIn(knows(EXAMPLE, [], fact)[0], ["always", "never", "both"])

    def test_bad_fact(self):
        for fact in WRONG_FACTS + wrong_values() + [EXAMPLE, EXAMPLE.routines["us"]]:
            for call in CALLS:
                self.assertIs(caught(BadFact, call, EXAMPLE, HEARD, fact), fact)
        self.assertIsNone(caught(BadFact, knows, play=EXAMPLE, row=[], fact=None))

    def test_wrong_values_within_facts(self):
        for value in wrong_values():
            facts = [
                (value, "foe", "x", 2), ("value", value, "x", 2), ("value", "foe", value, 2),
                ("value", "foe", "x", value),
                ("stands", value, (0,)), ("stands", "foe", value), ("stands", "foe", (value,)),
                ("stands", "us", (1, value, 0)),
                ("home", value), ("home", "us", value), (value, "foe", (0,)),
            ]
            if value != "home":
                facts.append((value, "us"))
            for fact in facts:
                for call in CALLS:
                    self.assertIs(caught(BadFact, call, EXAMPLE, [], fact), fact)

    def test_paths_where_it_stands(self):
        again = ("repeat", (("tell", "p", 1), ("if", ("name", "a"), (("leave",),), ())))
        routine = Routine((("set", "a", 1), again, ("home",)))
        play = Play({"a": routine, "us": Routine(())}, "us")
        right = [path for path in routine.paths() if routine.statement(path)[0] == "tell"]
        for path in routine.paths():
            if path in right:
                self.assertEqual(knows(play, [], ("stands", "a", path)), ("always",))
            else:
                self.assertEqual(caught(BadFact, knows, play, [], ("stands", "a", path)), ("stands", "a", path))

    def test_bad_row(self):
        for value in wrong_values() + [(), tuple(HEARD), HEARD[0], HEARD * 61, [None] * 61, {}, EXAMPLE]:
            wanted = 0 if isinstance(value, list) and len(value) <= 60 else -1
            if value != []:
                for call in CALLS:
                    self.assertEqual(repr(caught(BadRow, call, EXAMPLE, value, PICKED_2)), repr(wanted))
                    self.assertEqual(caught(BadRow, call, EXAMPLE, value, None), wanted)
        for item in (("heard", "p", True), ["heard", "p", 2], ("pick", -1), None):
            for call in CALLS:
                self.assertEqual(caught(BadRow, call, EXAMPLE, HEARD + [item, None], PICKED_2), 1)

    def test_no_row(self):
        rows = [[("told", "q")], [("heard", "p", 3)], HEARD * 2, HEARD * 60, HEARD + [("pick", 2)], [("over", "p", 2)]]
        for row in rows:
            for call in CALLS:
                self.assertIs(caught(NoRow, call, EXAMPLE, row, PICKED_2), row)
        for answer in (None, ("always",), ("never",), ("both", [], [])):
            self.assertEqual(caught(NoRow, knows_fault, EXAMPLE, HEARD * 2, PICKED_2, answer), HEARD * 2)

    def test_too_many(self):
        fact = ("home", "teller")
        self.assertEqual(knows(counted(399), [], fact), ("never",))
        for call in CALLS:
            self.assertEqual(caught(TooMany, call, counted(400), [], fact), 400)

    def test_order(self):
        many, none = counted(400), [("told", "x")]
        for call in CALLS:
            self.assertEqual(caught(BadRow, call, many, [None], None), 0)
            self.assertEqual(caught(BadRow, call, many, none * 61, ("home", "us")), -1)
            self.assertIsNone(caught(BadFact, call, many, none, None))
            self.assertIsNone(caught(BadFact, call, EXAMPLE, none, None))
            self.assertEqual(caught(TooMany, call, many, none, ("home", "us")), 400)
            self.assertEqual(caught(NoRow, call, EXAMPLE, none, ("home", "us")), none)


class Again(unittest.TestCase):
    def test_what_is_returned_may_be_changed(self):
        for _ in range(3):
            answer = knows(EXAMPLE, [], PICKED_2)
            self.assertEqual(answer, ("both", [PICK], []))
            for run in answer[1:]:
                run.append(None)
            caught(BadFact, knows, EXAMPLE, [], ("home",))
            caught(NoRow, knows, EXAMPLE, HEARD * 2, PICKED_2)

    def test_what_was_passed_stays_as_it_was(self):
        row, one, other = list(HEARD), [PICK, TOLD], [PICK, TOLD, None]
        for _ in range(2):
            self.assertEqual(knows_fault(EXAMPLE, row, PICKED_2, ("both", one, one)), ("fact", 1))
            self.assertEqual(knows_fault(EXAMPLE, row, PICKED_2, ("both", one, other)), ("form",))
            self.assertEqual([row, one, other], [HEARD, [PICK, TOLD], [PICK, TOLD, None]])


if __name__ == "__main__":
    unittest.main()
