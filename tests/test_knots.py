"""[19], [22], [23]: knots, and the judge of knots."""

import copy
import unittest

from onlyheard import knots as module
from onlyheard.errors import BadAim, TooMany
from onlyheard.knots import knot_fault
from onlyheard.plays import Play
from onlyheard.routines import Routine
from onlyheard.worlds import worlds
from planned import (
    ALSO_1, BAD_2, ENDED, EXAMPLE, FAILED, FIRST, GOOD_1, GOOD_2, HEARD_1, HEARD_2, HOME_STAND, PICKED_1, PICKED_2,
    SILENT, changed, example_knot, wrong_aims, wrong_but,
)
from samples import caught, counted, endless_play, example_play, four_play, listener, wrong_values

KNOT = example_knot()
LOST = ("lost",)
PICK = ("open", ((("set", "x", 1),), (("set", "x", 2),)))
TEST = ("if", ("same", ("name", "x"), ("name", "y")), (), (("fail",),))
# "us" must pick what "foe" picked, and hears nothing of it.
MUTE = Play({
    "foe": Routine((PICK, ("hear", "q", "y"), TEST)),
    "us": Routine((("open", ((("tell", "q", 1),), (("tell", "q", 2),))),)),
}, "us")
LINE = ("at", (0,), ())
TELLS = [("at", (0, k, 0), ()) for k in (0, 1)]
SILENTLY = [("at", (0,), (0, 0)), ("at", (1,), (1, 0)), ("at", (1,), (2, 0))]
MUTE_FAILED = (("fail", (2, 1, 0)), HOME_STAND)


def mute_knot():
    """A knot that refutes "safe", with the worlds that it needs alone."""
    return [
        (((SILENTLY[0], LINE),), None, ("open", (1, 2))),
        (((SILENTLY[2], TELLS[0]),), None, ("then", ("told", "q"), 3)),
        (((SILENTLY[1], TELLS[1]),), None, ("then", ("told", "q"), 3)),
        ((MUTE_FAILED,), None, LOST),
    ]


def fault(knot, aim=1, play=EXAMPLE):
    return knot_fault(play, aim, knot)


class Refutes(unittest.TestCase):
    def test_knots_that_refute(self):
        self.assertIsNone(fault(KNOT))
        for aim in ("safe", "going"):
            self.assertIsNone(fault(mute_knot(), aim, MUTE))
        self.assertIsNone(fault([((FIRST,), 0, LOST)], 0))
        self.assertIsNone(fault([((PICKED_2,), 0, LOST)], 0))

    def test_by_name(self):
        self.assertIsNone(knot_fault(play=EXAMPLE, aim=1, knot=KNOT))
        self.assertEqual(knot_fault(knot=[], aim=1, play=EXAMPLE), ("form", -1))
        self.assertEqual(knot_fault.__module__, "onlyheard.knots")
        self.assertIs(module.knot_fault, knot_fault)

    def test_the_worlds_may_be_some_of_the_spread(self):
        for some in (SILENT, SILENT[1:], SILENT[:1], SILENT[2:], (FIRST, PICKED_2)):
            self.assertEqual(fault(changed(KNOT, 0, 0, some)), None)
        # Behind the pick of 1 alone nobody can tell 2.
        self.assertEqual(fault(changed(KNOT, 0, 0, (PICKED_1,))), ("world", 0, HEARD_2))
        knot = changed(KNOT, 0, 2, ("then", ("heard", "p", 1), 1))
        other = changed(changed(changed(knot, 1, 0, (HEARD_1,)), 2, 0, (GOOD_1,)), 3, 0, (ALSO_1,))
        self.assertIsNone(fault(changed(other, 0, 0, (PICKED_1,))))

    def test_the_spread_of_a_part_counts(self):
        # The fail comes to be by an unseen move behind the worlds of the part.
        play = Play({"foe": Routine((("open", ((), (("fail",),))),)), "us": Routine(())}, "us")
        first, home, failed = worlds(play)
        self.assertEqual(failed[0][0], "fail")
        for some in ((first,), (failed,), tuple(sorted([first, failed, home]))):
            for aim in ("safe", "going"):
                self.assertIsNone(knot_fault(play, aim, [(some, None, LOST)]))
            self.assertIsNone(knot_fault(play, 3, [(some, 3, LOST)]))
        self.assertEqual(knot_fault(play, "safe", [((home,), None, LOST)]), ("lost", 0))

    def test_stuck_is_lost_for_going_and_numbers(self):
        play = Play({"foe": Routine((("open", ((), (("tell", "p", 1),))),)), "us": Routine((("hear", "p", "a"),))},
            "us")
        first = worlds(play)[0]
        for aim, left in (("going", None), (1, 1), (40, 40)):
            self.assertIsNone(knot_fault(play, aim, [((first,), left, LOST)]))
        self.assertEqual(knot_fault(play, "safe", [((first,), None, LOST)]), ("lost", 0))
        tells = [world for world in worlds(play) if world[0][:2] == ("at", (0, 1, 0))][0]
        self.assertEqual(knot_fault(play, "going", [((tells,), None, LOST)]), ("lost", 0))

    def test_out_of_dealings_at_a_tell_a_hear_and_a_wait(self):
        others = {"a": Routine((("repeat", (("tell", "p", 1),)),)), "b": listener("q")}
        line = ("open", ((("fail",),), ()))
        for own, is_out in (
            ((("tell", "q", 2),), True), ((("hear", "p", "x"),), True), ((("wait", (("p", "x", ()),)),), True),
            ((line,), False), ((), False), ((("home",),), False),
        ):
            play = Play({**others, "us": Routine(own)}, "us")
            first = worlds(play)[0]
            self.assertEqual(knot_fault(play, 0, [((first,), 0, LOST)]), None if is_out else ("lost", 0))
            self.assertEqual(knot_fault(play, 1, [((first,), 1, LOST)]), ("lost", 0))
            for aim in ("safe", "going"):
                self.assertEqual(knot_fault(play, aim, [((first,), None, LOST)]), ("lost", 0))

    def test_what_is_overheard(self):
        play = example_play(("p", "q"))
        self.assertIsNone(fault(KNOT, 1, play))
        teller = Routine((("open", ((("tell", "s", 1),), (("tell", "s", 2),))), ("tell", "r", 1)))
        line = ("open", ((("fail",),), (("hear", "r", "z"),)))
        play = Play({"a": teller, "b": listener("s"), "us": Routine((line,))}, "us", ("s",))
        some = [tuple(w for w in worlds(play) if w[0][:2] == stand and w[2][:2] == own) for stand, own in (
            (("at", (0,)), ("at", (0,))), (("at", (1,)), ("at", (0,))), (("at", (1,)), ("at", (0, 1, 0))))]
        some = [tuple(sorted(worlds)) for worlds in some]
        fails = tuple(sorted(w for w in worlds(play) if w[2][0] == "fail" and w[0][:2] == ("at", (1,))))
        for noted, ones in ((("over", "s", 1), 1), (("over", "s", 2), 2)):
            one = [tuple(w for w in ws if w[1][2] == (ones,)) for ws in some]
            failed = tuple(w for w in fails if w[1][2] == (ones,))
            knot = [(some[0], 1, ("then", noted, 1)), (one[1], 1, ("open", (3, 2))), (one[2], 1, LOST),
                    (failed, 1, LOST)]
            self.assertEqual(knot_fault(play, 1, knot), ("lost", 2))
            none = [part[:1] + (0,) + part[2:] for part in knot]
            self.assertIsNone(knot_fault(play, 0, none))
            self.assertEqual(knot_fault(play, 1, changed(knot, 1, 1, 0)), ("left", 0))
            other = ("over", "s", 3 - ones)
            self.assertEqual(knot_fault(play, 0, changed(none, 0, 2, ("then", other, 1))), ("world", 0, one[1][0]))

    def test_parts_that_none_leads_to(self):
        self.assertIsNone(fault(KNOT + [((FAILED,), 1, LOST)]))
        self.assertEqual(fault(KNOT + [((ENDED,), 1, LOST)]), ("lost", 4))

    def test_two_parts_may_lead_to_the_same_one(self):
        self.assertIsNone(fault(mute_knot(), "safe", MUTE))
        more = mute_knot() + [((MUTE_FAILED,), None, LOST)]
        self.assertIsNone(fault(changed(more, 2, 2, ("then", ("told", "q"), 4)), "safe", MUTE))


class Aims(unittest.TestCase):
    def test_bad_aim(self):
        for aim in wrong_aims():
            for knot in (KNOT, [], None):
                self.assertIs(caught(BadAim, knot_fault, EXAMPLE, aim, knot), aim)
        self.assertIsNone(caught(BadAim, knot_fault, play=EXAMPLE, aim=None, knot=KNOT))
        self.assertIs(caught(BadAim, knot_fault, counted(400), True, KNOT), True)

    def test_too_many(self):
        for aim in ("safe", "going", 0, 40):
            for knot in (KNOT, [], None, [None]):
                self.assertEqual(caught(TooMany, knot_fault, counted(400), aim, knot), 400)
                self.assertIsNotNone(knot_fault(counted(399), aim, knot))


class Form(unittest.TestCase):
    def test_the_knot_itself(self):
        for aim in ("safe", "going", 1):
            for value in wrong_values() + [tuple(KNOT), {0: KNOT[0]}, KNOT[0], EXAMPLE]:
                wanted = 0 if isinstance(value, list) and 1 <= len(value) <= 2000 else -1
                self.assertEqual(repr(fault(value, aim)), repr(("form", wanted)))

    def test_the_parts(self):
        for value in wrong_values() + [list(KNOT[0]), KNOT[0][:2], KNOT[0] + (None,), (), KNOT, tuple(KNOT)]:
            self.assertEqual(fault([value] + KNOT[1:]), ("form", 0))
            self.assertEqual(fault(KNOT + [value]), ("form", 4))
            self.assertEqual(fault(KNOT[:1] + [value] + KNOT[2:] + [value]), ("form", 1))

    def test_worlds(self):
        flag = (("at", (False,), (0, 0)), FIRST[1])
        never = (("at", (2,), (3, 0)), HEARD_1[1])
        wrong = wrong_values() + [
            (), (SILENT[1], SILENT[0], SILENT[2]), (FIRST, FIRST), (PICKED_2, FIRST), list(SILENT), FIRST, {FIRST: 1},
            (FIRST, None), (None, FIRST), (FIRST + FIRST,), (FIRST[:1],), (flag,), (never,), ((FIRST[1], FIRST[0]),),
        ]
        for value in wrong:
            for index in (0, 3):
                self.assertEqual(fault(changed(KNOT, index, 0, value)), ("form", index))
        for value in wrong_values():
            self.assertEqual(fault(changed(KNOT, 0, 0, (FIRST, value))), ("form", 0))
            self.assertEqual(fault(changed(KNOT, 0, 0, ((FIRST[0], value),))), ("form", 0))
            self.assertEqual(fault(changed(KNOT, 0, 0, ((("at", value, (0, 0)), FIRST[1]),))), ("form", 0))
            self.assertEqual(fault(changed(KNOT, 0, 0, ((("at", (0,), (value, 0)), FIRST[1]),))), ("form", 0))

    def test_left(self):
        for value in wrong_values() + [2, 41, -1, True, False, None, "1"]:
            for index in (0, 3):
                self.assertEqual(fault(changed(KNOT, index, 1, value)), ("form", index))
        for value in wrong_but(None) + [0, 1]:
            for aim in ("safe", "going"):
                self.assertEqual(fault(changed(mute_knot(), 3, 1, value), aim, MUTE), ("form", 3))

    def test_why(self):
        wrong = wrong_values() + [
            "lost", ["lost"], ("lost", 1), ("lost", ()), ("Lost",), ("open",), ("open", [2, 3]), ("open", 2),
            ("open", 2, 3),
            ("open", (2, 3), ()), ("then",), ("then", ("heard", "p", 2)), ("then", ("heard", "p", 2), 1, 1),
            ("then", 1, ("heard", "p", 2)), ["then", ("heard", "p", 2), 1], ("then", (("heard", "p", 2),), 1),
            ("then", ["heard", "p", 2], 1), ("then", "told", 1), None, ("heard", ("then", "p", 2), 1),
        ]
        wrong += [("then", ("pick", k), 1) for k in (0, 1, 2)]
        for noted in (("heard", "p"), ("told", "p", 1), ("over", "p", 10), ("told",), ("heard", "on", 1),
                ("told", "P")):
            wrong.append(("then", noted, 1))
        for value in wrong:
            for index in (0, 1, 3):
                self.assertEqual(fault(changed(KNOT, index, 2, value)), ("form", index))
        many = (0,) * 100000
        for value in wrong_but((), "open", many):
            for why in (("then", value, 1), ("then", ("heard", "p", value), 1), (value, ()), (value,), (value, many),
                        ("then", ("told", value), 1), ("over", value, 1), ("open", value)):
                self.assertEqual(fault(changed(KNOT, 0, 2, why)), ("form", 0))
        self.assertEqual(fault(changed(KNOT, 0, 2, ("open", many))), ("line", 0))

    def test_numbers_of_parts(self):
        for value in wrong_values() + [4, 5, -1, True, False, None, "2", (2,)]:
            for why in (("open", (value,)), ("open", (2, value)), ("open", (value, 3)), ("open", (2, 3, value)),
                        ("then", ("heard", "p", 2), value), ("then", ("told", "p"), value)):
                self.assertEqual(fault(changed(KNOT, 1, 2, why)), ("form", 1))

    def test_one_part_2000_and_2001(self):
        self.assertIsNone(fault([((FIRST,), 0, LOST)], 0))
        self.assertEqual(fault([]), ("form", -1))
        more = ((FAILED,), 1, LOST)
        self.assertIsNone(fault(KNOT + [more] * 1996))
        self.assertEqual(fault(KNOT + [more] * 1997), ("form", -1))
        self.assertEqual(fault(KNOT + [more] * 1995 + [None]), ("form", 1999))
        self.assertEqual(fault(KNOT + [more] * 1995 + [((ENDED,), 1, LOST)]), ("lost", 1999))

    def test_form_goes_ahead_of_all_else(self):
        knot = changed(changed(KNOT, 0, 0, (ENDED,)), 3, 1, 2)
        self.assertEqual(fault(knot), ("form", 3))
        self.assertEqual(fault(changed(knot, 1, 2, ("open", (2, 4)))), ("form", 1))


class Start(unittest.TestCase):
    def test_worlds(self):
        for some in ((HEARD_2,), (ENDED,), (FIRST, HEARD_2), (FAILED,)):
            self.assertEqual(fault(changed(KNOT, 0, 0, some)), ("start",))
        self.assertEqual(fault(KNOT[1:] + KNOT), ("start",))

    def test_left(self):
        self.assertEqual(fault(changed(KNOT, 0, 1, 0)), ("start",))
        self.assertEqual(fault(KNOT, 2), ("start",))

    def test_it_goes_ahead_of_the_faults_of_parts(self):
        self.assertEqual(fault(changed(changed(KNOT, 0, 0, (FIRST, ENDED)), 0, 2, LOST)), ("start",))


class Faults(unittest.TestCase):
    def test_lost(self):
        for index, some in ((2, GOOD_1), (3, HEARD_1)):
            self.assertEqual(fault(changed(changed(KNOT, index, 1, 1), index, 0, (some,)))[0], "left")
        self.assertEqual(fault(changed(KNOT, 0, 2, LOST)), ("lost", 0))
        self.assertEqual(fault(changed(KNOT, 1, 2, LOST)), ("lost", 1))
        self.assertEqual(fault([(SILENT, None, LOST)], "going"), ("lost", 0))
        # With 0 dealings left, an open line and home are not lost.
        self.assertEqual(fault(KNOT + [((HEARD_1, HEARD_2), 0, LOST)]), ("lost", 4))
        self.assertEqual(fault(KNOT + [((ENDED,), 0, LOST)]), ("lost", 4))
        self.assertIsNone(fault(KNOT + [((HEARD_1, GOOD_1), 0, LOST)]))

    def test_line(self):
        for parts in ((), (2,), (2, 3, 3), (2, 3, 2, 3)):
            self.assertEqual(fault(changed(KNOT, 1, 2, ("open", parts))), ("line", 1))
        for index in (0, 2):
            for parts in ((), (3,), (3, 3)):
                self.assertEqual(fault(changed(KNOT, index, 2, ("open", parts))), ("line", index))
        self.assertEqual(fault(KNOT + [((PICKED_1, HEARD_1), 0, ("open", (5, 5))), ((BAD_2,), 0, LOST)]), ("line", 4))

    def test_line_with_one_block(self):
        play = Play({"foe": Routine(()), "us": Routine((("open", ((("fail",),),)),))}, "us")
        first, failed = worlds(play)
        self.assertIsNone(knot_fault(play, "safe", [((first,), None, ("open", (1,))), ((failed,), None, LOST)]))
        for many in (0, 2):
            knot = [((first,), None, ("open", (1,) * many)), ((failed,), None, LOST)]
            self.assertEqual(knot_fault(play, "safe", knot), ("line", 0))

    def test_line_with_other_numbers_of_blocks(self):
        lines = ("wait", (("p", "a", (("open", ((), ())),)), ("q", "a", (("open", ((), (), ())),))))
        foe = Routine((("open", ((("tell", "p", 0),), (("tell", "q", 0),))), ("fail",)))
        play = Play({"foe": foe, "us": Routine((lines,))}, "us")
        known = worlds(play)
        two, three = [[w for w in known if w[1][:2] == ("at", (0, k, 0))][0] for k in (0, 1)]
        first = known[0]
        self.assertEqual([two[0][0], three[0][0]], ["fail", "fail"])
        begin = ((first,), None, ("then", ("heard", "p", 0), 1))
        some = tuple(sorted([two, three]))
        for many in range(5):
            knot = [begin, ((two,), None, LOST), (some, None, ("open", (1,) * many))]
            self.assertEqual(knot_fault(play, "safe", knot), ("line", 2))
            knot[2] = ((two,), None, ("open", (1,) * many))
            self.assertEqual(knot_fault(play, "safe", knot), ("later", 2) if many == 2 else ("line", 2))
            knot[2] = ((three,), None, ("open", (1,) * many))
            self.assertEqual(knot_fault(play, "safe", knot), ("later", 2) if many == 3 else ("line", 2))

    def test_later(self):
        for parts in ((1, 3), (2, 1), (0, 3), (2, 0), (1, 1)):
            self.assertEqual(fault(changed(KNOT, 1, 2, ("open", parts))), ("later", 1))
        self.assertEqual(fault(changed(KNOT, 0, 2, ("then", ("heard", "p", 2), 0))), ("later", 0))
        for part in (0, 1, 2):
            self.assertEqual(fault(changed(KNOT, 2, 2, ("then", ("told", "q"), part))), ("later", 2))

    def test_left(self):
        for index in (2, 3):
            self.assertEqual(fault(changed(KNOT, index, 1, 1)), ("left", 1))
        self.assertEqual(fault(changed(KNOT, 1, 1, 1)), ("left", 0))
        # Behind a tell and a hear one less is left, where 0 are, too.
        self.assertEqual(fault(changed(KNOT, 2, 2, ("then", ("told", "q"), 3))), ("left", 2))
        self.assertEqual(fault(changed(KNOT, 2, 2, ("then", ("heard", "p", 0), 3))), ("left", 2))
        self.assertEqual(fault(changed(KNOT, 2, 2, ("then", ("over", "p", 0), 3))), ("world", 2, GOOD_2))

    def test_world(self):
        self.assertEqual(fault(changed(KNOT, 1, 0, (HEARD_1, HEARD_2))), ("world", 0, HEARD_1))
        self.assertEqual(fault(changed(KNOT, 1, 0, (HEARD_1,))), ("world", 0, HEARD_1))
        self.assertEqual(fault(changed(KNOT, 0, 2, ("then", ("heard", "p", 3), 1))), ("world", 0, HEARD_2))
        self.assertEqual(fault(changed(KNOT, 1, 2, ("open", (3, 2)))), ("world", 1, GOOD_2))
        self.assertEqual(fault(changed(KNOT, 1, 2, ("open", (2, 2)))), ("world", 1, BAD_2))
        self.assertEqual(fault(changed(KNOT, 1, 2, ("open", (3, 3)))), ("world", 1, GOOD_2))

    def test_the_first_world_of_the_first_part_behind(self):
        knot = changed(changed(KNOT, 2, 0, (ALSO_1, BAD_2)), 3, 0, (GOOD_1, GOOD_2))
        self.assertEqual(fault(knot), ("world", 1, ALSO_1))
        self.assertEqual(fault(changed(knot, 1, 2, ("open", (3, 2)))), ("world", 1, GOOD_1))
        self.assertEqual(fault(changed(changed(knot, 3, 0, (GOOD_2, ENDED)), 2, 0, (BAD_2,))), ("world", 1, ENDED))

    def test_which_goes_first_in_a_part(self):
        knot = changed(KNOT, 2, 1, 1)
        for parts, wanted in (((2, 1, 1), "line"), ((2, 1), "later"), ((2, 2), "left")):
            self.assertEqual(fault(changed(knot, 1, 2, ("open", parts))), (wanted, 1))
        self.assertEqual(fault(changed(knot, 0, 0, (PICKED_1,))), ("world", 0, HEARD_2))

    def test_the_first_part_goes_first(self):
        knot = changed(changed(KNOT, 3, 0, (HEARD_1,)), 2, 2, ("open", ()))
        self.assertEqual(fault(knot), ("world", 1, HEARD_1))
        self.assertEqual(fault(changed(knot, 1, 2, ("then", ("told", "q"), 0))), ("later", 1))


class Chains(unittest.TestCase):
    def test_long_chains(self):
        play = counted(399)
        chain = worlds(play)
        knot = [((world,), None, ("then", ("heard", "p", k % 10), k + 1)) for k, world in enumerate(chain[:-1])]
        knot.append(((chain[-1],), None, LOST))
        self.assertIsNone(knot_fault(play, "going", knot))
        self.assertEqual(knot_fault(play, "safe", knot), ("lost", 399))

    def test_rounds(self):
        play = endless_play()
        first, second = worlds(play)
        noted = ("heard", "p", 1)
        knot = [((first,), 40, ("then", noted, 1))]
        knot += [((second,), 40 - k, ("then", noted, k + 1)) for k in range(1, 40)] + [((second,), 0, LOST)]
        self.assertIsNone(knot_fault(play, 40, knot))
        self.assertEqual(knot_fault(play, 40, changed(knot, 40, 1, 1)), ("left", 39))
        self.assertEqual(knot_fault(play, 40, changed(knot, 39, 2, ("then", noted, 3))), ("later", 39))
        self.assertEqual(knot_fault(play, 39, [part[:1] + (part[1] - 1,) + part[2:] for part in knot[:40]])[0], "form")

    def test_four_routines(self):
        play = four_play(("p", "q", "r", "s"))
        first = worlds(play)[0]
        self.assertIsNone(knot_fault(play, 0, [((first,), 0, LOST)]))
        self.assertEqual(knot_fault(play, "safe", [((first,), None, LOST)]), ("lost", 0))


class Again(unittest.TestCase):
    def test_what_was_passed_stays_as_it_was(self):
        for knot in (example_knot(), changed(KNOT, 1, 0, (HEARD_1,)), [None]):
            before = copy.deepcopy(knot)
            wanted = fault(knot)
            for _ in range(2):
                caught(BadAim, knot_fault, EXAMPLE, None, knot)
                self.assertEqual(fault(knot), wanted)
            self.assertEqual(knot, before)
        self.assertEqual(EXAMPLE, example_play())


if __name__ == "__main__":
    unittest.main()
