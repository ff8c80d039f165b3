"""The examples of the document's interface, as they stand there."""

import unittest

from onlyheard.errors import BadRoutine
from onlyheard.plays import Play
from onlyheard.routines import Routine
from onlyheard.stands import begun, choices, heard, picked, tells, told
from onlyheard.texts import read_routine, routine_text
from onlyheard.worlds import behind, first_world, led, moves, worlds
from onlyheard.writing import written

OWN = (("hear", "p", "a"), ("open", ((("tell", "q", 1),), (("tell", "q", ("name", "a")),))))


class Examples(unittest.TestCase):
    def test_routine(self):
        own = Routine(OWN)
        self.assertEqual(
            [own.names(), own.ports(), own.paths(), own.open_lines(), own.statement((1, 0, 0))],
            [["a"], ["p", "q"], [(0,), (1,), (1, 0, 0), (1, 1, 0)], [(1,)], ("tell", "q", 1)],
        )

    def test_bad_routines(self):
        with self.assertRaises(BadRoutine) as caught:
            Routine((("set", "a", 3), ("leave",)))
        self.assertEqual(caught.exception.what, (1,))
        with self.assertRaises(BadRoutine) as caught:
            Routine((("repeat", (("set", "a", ("plus", ("name", "a"), 5)),)),))
        self.assertEqual(caught.exception.what, (0,))

    def test_stands(self):
        own = Routine(OWN)
        stand = heard(own, begun(own), "p", 7)
        behind = picked(own, stand, 1)
        self.assertEqual(
            [begun(own), stand, choices(own, stand), tells(own, behind), told(own, behind)],
            [("at", (0,), (0,)), ("at", (1,), (7,)), 2, ("q", 7), ("home",)],
        )

    def test_worlds(self):
        own = Routine(OWN)
        pick = ("open", ((("set", "x", 1),), (("set", "x", 2),)))
        test = ("if", ("same", ("name", "x"), ("name", "y")), (), (("fail",),))
        foe = Routine((pick, ("tell", "p", ("name", "x")), ("hear", "q", "y"), test))
        play = Play({"foe": foe, "us": own}, "us")
        run = [("pick", "foe", 1), ("tell", "foe", "us", "p"), ("pick", "us", 0), ("tell", "us", "foe", "q")]
        self.assertEqual(
            [moves(play, first_world(play)), len(worlds(play)), led(play, run)[-1]],
            [[("pick", "foe", 0), ("pick", "foe", 1)], 11, (("fail", (3, 1, 0)), ("home",))],
        )
        world = first_world(play)
        for move in run:
            world = behind(play, world, move)
        self.assertEqual(world, led(play, run)[-1])

    def test_written(self):
        own = Routine(OWN)
        deaf = Routine((("open", ((("tell", "q", 1),), (("tell", "q", 2),))),))
        pick = ("open", ((("set", "x", 1),), (("set", "x", 2),)))
        test = ("if", ("same", ("name", "x"), ("name", "y")), (), (("fail",),))
        foe = Routine((pick, ("tell", "p", ("name", "x")), ("hear", "q", "y"), test))
        mute = Routine((pick, ("hear", "q", "y"), test))
        told = written(Play({"foe": mute, "us": deaf}, "us"), "safe")
        play = Play({"foe": foe, "us": own}, "us")
        self.assertEqual(
            [written(play, 2)[0], written(play, 1)[0], told[0], told[1][0][2][0]],
            ["plan", "knot", "knot", "open"],
        )

    def test_texts(self):
        own = Routine((("hear", "p", "a"), ("open", ((("tell", "q", 1),),
            (("tell", "q", ("plus", ("name", "a"), 2)),)))))
        self.assertEqual(
            [routine_text(own), read_routine(routine_text(own)) == own],
            ["hear p a\nopen\n  tell q 1\nor\n  tell q (a plus 2)\nend", True],
        )


if __name__ == "__main__":
    unittest.main()
