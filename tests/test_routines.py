"""[9], [10]: statements, blocks, BadRoutine, and what a Routine tells of itself."""

import unittest

import reference
from onlyheard.errors import HeardError, NoPath
from onlyheard.routines import Routine
from samples import GOOD_NAMES, WRONG_NAMES, many_statements, repeated_if, wrong_at, wrong_values

TELL = ("tell", "p", 1)
# Each place of each kind of statement where a name stands.
NAME_PLACES = [
    lambda n: ("set", n, 1), lambda n: ("tell", n, 1), lambda n: ("hear", n, "x"), lambda n: ("hear", "x", n),
    lambda n: ("wait", ((n, "x", ()),)), lambda n: ("wait", (("x", n, ()),)),
    lambda n: ("wait", (("y", "x", ()), (n, "x", ()))), lambda n: ("wait", (("y", "x", ()), ("q", n, (TELL,)))),
]
# Each place of a block, with the number of the block.
BLOCK_PLACES = [
    (0, lambda b: ("wait", (("p", "x", b),))), (1, lambda b: ("wait", (("p", "x", ()), ("q", "y", b)))),
    (0, lambda b: ("open", (b,))), (3, lambda b: ("open", ((), (TELL,), (), b))),
    (0, lambda b: ("if", 1, b, ())), (1, lambda b: ("if", 0, (), b)), (0, lambda b: ("repeat", b)),
]
RIGHT = [
    ("set", "a", 1), TELL, ("hear", "p", "a"), ("wait", (("p", "a", ()),)), ("open", ((),)),
    ("if", 1, (), ()), ("repeat", (TELL,)), ("home",), ("fail",),
]


class Statements(unittest.TestCase):
    def test_right_ones(self):
        for statement in RIGHT:
            self.assertEqual(wrong_at((statement,)), "right")
            self.assertEqual(wrong_at((TELL, statement, TELL)), "right")
        self.assertEqual(wrong_at(()), "right")

    def test_names(self):
        for place in NAME_PLACES:
            for name in GOOD_NAMES:
                self.assertEqual(wrong_at((place(name),)), "right")
            for name in WRONG_NAMES:
                self.assertEqual(wrong_at((place(name),)), (0,))

    def test_wrong_values_at_names(self):
        for place in NAME_PLACES:
            for value in wrong_values():
                self.assertEqual(wrong_at((TELL, place(value))), (1,))

    def test_wrong_values_as_statements(self):
        for value in wrong_values():
            self.assertEqual(wrong_at((value,)), (0,))
            self.assertEqual(wrong_at((TELL, value, ("leave",))), (1,))

    def test_wrong_values_at_blocks(self):
        for number, place in BLOCK_PLACES:
            for value in wrong_values():
                wanted = (1,)
                if isinstance(value, tuple) and 0 < len(value) <= 12:
                    wanted = (1, number, 0)
                if value == () and place(value)[0] != "repeat":
                    wanted = "right"
                self.assertEqual(wrong_at((TELL, place(value))), wanted)

    def test_wrong_values_at_rows_and_lists_of_blocks(self):
        for value in wrong_values():
            for block in (
                (TELL, ("wait", value)), (TELL, ("open", value)), (TELL, ("wait", (value,))),
                (TELL, ("wait", (("p", "x", ()), value))), (TELL, (value, "a", 1)), (TELL, (value,)),
            ):
                self.assertEqual(wrong_at(block), reference.first_wrong(block))
        self.assertEqual(wrong_at((("wait", ()),)), (0,))
        self.assertEqual(wrong_at((("open", ()),)), (0,))

    def test_lists_in_the_place_of_tuples(self):
        row = ("p", "x", ())
        for statement in (
            ["set", "a", 1], ["home"], ("wait", [row]), ("wait", (list(row),)), ("wait", (("p", "x", []),)),
            ("open", [()]), ("open", ([],)), ("if", 1, [], ()), ("if", 1, (), []), ("repeat", [TELL]),
        ):
            self.assertEqual(wrong_at((statement,)), (0,))

    def test_each_kind_has_its_own_length(self):
        for statement in RIGHT + [("leave",)]:
            for wrong in (statement[:-1], statement + (1,), statement + ((),)):
                self.assertEqual(wrong_at((("repeat", (TELL, wrong)),)), (0, 0, 1))

    def test_unknown_words(self):
        for head in ("", "Set", "set ", "sets", "on", "or", "else", "end", "plus", "name", "a", None, 1, True):
            for parts in ((), (1,), ("a", 1), (1, (), ())):
                self.assertEqual(wrong_at(((head, *parts),)), (0,))

    def test_parts_in_the_wrong_order(self):
        for statement in (
            ("set", 1, "a"), ("tell", 1, "p"), ("hear", "p", 1), ("hear", "p", ("name", "a")), ("if", (), 1, ()),
            ("wait", (("p", (), "x"),)), ("wait", ("p", "x", ())), ("open", TELL), ("repeat", TELL),
        ):
            self.assertEqual(wrong_at((statement,)), reference.first_wrong((statement,)))
            self.assertNotEqual(wrong_at((statement,)), "right")


class Bounds(unittest.TestCase):
    def test_not_a_block(self):
        for value in wrong_values():
            wanted = (0,) if isinstance(value, tuple) and 0 < len(value) <= 12 else ()
            self.assertEqual(wrong_at(value), "right" if value == () else wanted)

    def test_twelve_statements_and_thirteen(self):
        self.assertEqual(wrong_at((TELL,) * 12), "right")
        self.assertEqual(wrong_at((TELL,) * 13), ())
        self.assertEqual(wrong_at((None,) * 13), ())
        for _, place in BLOCK_PLACES:
            self.assertEqual(wrong_at((TELL, place((TELL,) * 12))), "right")
            self.assertEqual(wrong_at((TELL, place((TELL,) * 13))), (1,))

    def test_twelve_deep_and_thirteen(self):
        path = (0,) + (0, 0) * 11
        self.assertEqual(wrong_at(repeated_if((TELL,), 11)), "right")
        self.assertEqual(Routine(repeated_if((TELL,), 11)).paths()[-1], path)
        for _, place in BLOCK_PLACES:
            self.assertEqual(wrong_at(repeated_if((place((TELL,)),), 10)), "right")
            self.assertEqual(wrong_at(repeated_if((TELL, place((TELL,))), 11)), path[:-1] + (1,))
            self.assertEqual(wrong_at(repeated_if((place(()),), 11)), path)

    def test_what_is_in_a_block_that_is_too_deep_does_not_count(self):
        path = (0,) + (0, 0) * 11
        for inner in ((None,), (("leave",),), repeated_if((TELL,), 70), (("repeat", ()),)):
            for _, place in BLOCK_PLACES:
                self.assertEqual(wrong_at(repeated_if((place(inner),), 11)), path)

    def test_statements_without_blocks_stand_twelve_deep(self):
        for statement in RIGHT:
            wanted = "right" if statement[0] in ("set", "tell", "hear", "home", "fail") else (0,) + (0, 0) * 11
            self.assertEqual(wrong_at(repeated_if((statement,), 11)), wanted)

    def test_four_rows_and_five(self):
        rows = tuple((port, "x", ()) for port in "abcde")
        for many in (1, 2, 3, 4):
            self.assertEqual(wrong_at((("wait", rows[:many]),)), "right")
        self.assertEqual(wrong_at((("wait", rows),)), (0,))
        self.assertEqual(wrong_at((("wait", rows[:0]),)), (0,))

    def test_four_blocks_and_five(self):
        for many in (1, 2, 3, 4):
            self.assertEqual(wrong_at((("open", ((),) * many),)), "right")
            self.assertEqual(wrong_at((("open", ((TELL,),) * many),)), "right")
        self.assertEqual(wrong_at((("open", ((),) * 5),)), (0,))

    def test_unlike_ports(self):
        for ports in (("p", "p"), ("p", "q", "p"), ("o", "p", "q", "q")):
            self.assertEqual(wrong_at((("wait", tuple((port, "x", ()) for port in ports)),)), (0,))
        self.assertEqual(wrong_at((("wait", (("p", "x", ()), ("x", "p", ()))),)), "right")

    def test_six_thousand_statements_and_one_more(self):
        self.assertEqual(wrong_at(many_statements(6000)), "right")
        self.assertEqual(len(Routine(many_statements(6000)).paths()), 6000)
        self.assertIsNone(wrong_at(many_statements(6001)))
        self.assertIsNone(wrong_at(many_statements(6002)))

    def test_a_wrong_path_goes_ahead_of_too_many(self):
        self.assertEqual(wrong_at(many_statements(6001)[:10] + (("leave",),)), (10,))
        self.assertEqual(wrong_at(many_statements(6001)[:10] + (("repeat", ()),)), (10,))
        block = many_statements(6001)
        self.assertEqual(wrong_at(block[:10] + (("if", 1, (), (("set", "a", True),)),)), (10, 1, 0))


class FirstPath(unittest.TestCase):
    def test_the_first_of_several(self):
        self.assertEqual(wrong_at((TELL, None, ("leave",))), (1,))
        self.assertEqual(wrong_at((("if", 1, (TELL, None), (None,)), None)), (0, 0, 1))
        self.assertEqual(wrong_at((("if", 1, (TELL,), (TELL, None)), None)), (0, 1, 1))
        self.assertEqual(wrong_at((("if", 10, (None,), (None,)), None)), (0,))

    def test_the_order_is_that_of_tuples(self):
        block = tuple([TELL] * 2 + [("open", ((), (), (TELL, None)))] + [TELL] * 8 + [None])
        self.assertEqual(wrong_at(block), (2, 2, 1))
        self.assertEqual(wrong_at((TELL,) * 11 + (None,)), (11,))

    def test_leaves_outside_of_repeats(self):
        self.assertEqual(wrong_at((("leave",),)), (0,))
        for number, place in BLOCK_PLACES:
            wanted = "right" if place(())[0] == "repeat" else (0, number, 0)
            self.assertEqual(wrong_at((place((("leave",),)),)), wanted)
            self.assertEqual(wrong_at((("repeat", (TELL, place((("leave",),)))),)), "right")
        self.assertEqual(wrong_at((("repeat", (TELL, ("leave",))), ("leave",))), (1,))

    def test_a_leave_far_within_a_repeat(self):
        self.assertEqual(wrong_at((("repeat", (TELL,) + repeated_if((("leave",),), 10)),)), "right")


class Asked(unittest.TestCase):
    block = (
        ("set", "b", ("plus", ("name", "f"), ("not", ("name", "e")))),
        ("wait", (("r", "c", (("tell", "q", ("name", "g")),)), ("z", "a", ()))),
        ("open", ((("open", ((),)),), (("hear", "y", "h"), ("if", ("less", 1, ("name", "d")), (), (TELL,))))),
        ("repeat", (("tell", "x", 1), ("open", ((("leave",),),)))),
        ("home",),
        ("fail",),
    )
    paths = [
        (0,), (1,), (1, 0, 0), (2,), (2, 0, 0), (2, 1, 0), (2, 1, 1), (2, 1, 1, 1, 0),
        (3,), (3, 0, 0), (3, 0, 1), (3, 0, 1, 0, 0), (4,), (5,),
    ]

    def test_block(self):
        self.assertEqual(Routine(self.block).block, self.block)
        self.assertEqual(Routine(block=self.block).block, self.block)

    def test_names_ports_paths_open_lines(self):
        routine = Routine(self.block)
        self.assertEqual(routine.names(), list("abcdefgh"))
        self.assertEqual(routine.ports(), ["p", "q", "r", "x", "y", "z"])
        self.assertEqual(routine.paths(), self.paths)
        self.assertEqual(sorted(self.paths), self.paths)
        self.assertEqual(routine.open_lines(), [(2,), (2, 0, 0), (3, 0, 1)])

    def test_names_in_each_place(self):
        n = ("name", "n")
        for statement in (
            ("set", "n", 1), ("set", "n", n), ("tell", "p", n), ("hear", "p", "n"), ("if", n, (), ()),
            ("wait", (("p", "n", ()), ("q", "n", ()))), ("tell", "p", ("minus", 1, n)), ("tell", "p", ("same", n, n)),
        ):
            for _, place in BLOCK_PLACES[2:]:
                self.assertEqual(Routine((place((statement, TELL)),)).names(), ["n"])

    def test_names_and_ports_do_not_come_twice_and_are_sorted(self):
        routine = Routine((("hear", "q", "z"), ("tell", "p", ("name", "ab")), ("hear", "q", "b"), ("hear", "p", "z")))
        self.assertEqual([routine.names(), routine.ports()], [["ab", "b", "z"], ["p", "q"]])

    def test_ports_are_no_names(self):
        self.assertEqual(Routine((TELL,)).names(), [])
        self.assertEqual(Routine((("set", "a", 1),)).ports(), [])

    def test_empty_routine(self):
        routine = Routine(())
        asked = [routine.names(), routine.ports(), routine.paths(), routine.open_lines()]
        self.assertEqual(asked, [[], [], [], []])
        with self.assertRaises(NoPath):
            routine.statement((0,))

    def test_statement(self):
        routine = Routine(self.block)
        self.assertEqual(routine.statement((0,)), self.block[0])
        self.assertEqual(routine.statement((1, 0, 0)), ("tell", "q", ("name", "g")))
        self.assertEqual(routine.statement((2, 1, 1, 1, 0)), TELL)
        self.assertEqual(routine.statement((3, 0, 1, 0, 0)), ("leave",))
        self.assertEqual(routine.statement(path=(5,)), ("fail",))

    def test_no_path(self):
        routine = Routine(self.block)
        values = wrong_values() + [
            0, (), (6,), (-1,), (0, 0, 0), (1, 0), (1, 0, 1), (1, 1, 0), (1, 2, 0), (2, 1, 1, 0, 0), [0], [1, 0, 0],
            (True,), (False,), (1, False, 0), (1, 0, False), (True, 0, 0), (2, True, 1), "0", (0, 0), ((0,),),
            (10 ** 5000,), (0,) * 23, (0,) * 24, (0,) * 25, {0: 0}, ("0",), (None,), routine,
        ]
        for value in values:
            with self.assertRaises(NoPath) as caught:
                routine.statement(value)
            self.assertIs(caught.exception.what, value)
        self.assertEqual(routine.statement((0,)), self.block[0])

    def test_the_deepest_path(self):
        routine = Routine(repeated_if((TELL,), 11))
        self.assertEqual(routine.statement((0,) + (0, 0) * 11), TELL)
        with self.assertRaises(NoPath):
            routine.statement((0,) + (0, 0) * 12)

    def test_returned_lists_are_new(self):
        routine = Routine(self.block)
        for method in (routine.names, routine.ports, routine.paths, routine.open_lines):
            once = method()
            before = list(once)
            once.append("more")
            once.reverse()
            self.assertEqual(method(), before)
            method().clear()
            self.assertEqual(method(), before)
        self.assertEqual(routine.statement((1,)), self.block[1])
        self.assertEqual(routine.block, self.block)

    def test_asked_again_behind_an_error(self):
        routine = Routine(self.block)
        for _ in range(3):
            self.assertEqual([routine.paths(), routine.names()], [self.paths, list("abcdefgh")])
            for wrong in (None, [1], (9,)):
                with self.assertRaises(NoPath):
                    routine.statement(wrong)
            with self.assertRaises(HeardError):
                Routine(self.block + (None,))
        self.assertEqual(routine.block, self.block)

    def test_wrong_values_stay_as_they_were(self):
        inner = [1, {"a": [2]}]
        for value in ([inner], (inner,), {"a": inner}, (("set", "a", inner),)):
            self.assertNotEqual(wrong_at(value), "right")
            with self.assertRaises(NoPath):
                Routine(()).statement(value)
        self.assertEqual(inner, [1, {"a": [2]}])


class Equality(unittest.TestCase):
    def test_by_blocks(self):
        self.assertTrue(Routine(()) == Routine(()))
        self.assertTrue(Routine((TELL,)) == Routine((("tell", "p", 1),)))
        self.assertFalse(Routine((TELL,)) != Routine((TELL,)))
        self.assertFalse(Routine((TELL,)) == Routine(()))
        self.assertTrue(Routine((TELL,)) != Routine((TELL, TELL)))
        self.assertFalse(Routine((TELL,)) == Routine((("tell", "p", 2),)))

    def test_same_doing_in_another_block_is_not_equal(self):
        self.assertFalse(Routine((("home",),)) == Routine(()))

    def test_equal_to_nothing_else(self):
        for routine in (Routine(()), Routine((TELL,))):
            for value in wrong_values() + [(TELL,), [TELL], routine.block, 0, 1, "a", (routine,), [routine]]:
                if not isinstance(value, Routine):
                    self.assertIs(routine == value, False)
                    self.assertIs(value == routine, False)
                    self.assertIs(routine != value, True)


if __name__ == "__main__":
    unittest.main()
