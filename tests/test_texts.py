"""[32], [33], [34]: the texts of routines and plays, and how they are read."""

import unittest

from onlyheard import texts as module
from onlyheard.errors import BadText
from onlyheard.plays import Play
from onlyheard.routines import Routine
from onlyheard.texts import play_text, read_play, read_routine, routine_text
from samples import GOOD_NAMES, WRONG_NAMES, caught, example_play, four_play, many_statements, nested, wrong_values

A = ("name", "a")
STATEMENTS = [
    ("set a 1", ("set", "a", 1)), ("set abcdefgh a", ("set", "abcdefgh", A)), ("tell p 0", ("tell", "p", 0)),
    ("tell p (a plus 9)", ("tell", "p", ("plus", A, 9))), ("hear p a", ("hear", "p", "a")), ("home", ("home",)),
    ("fail", ("fail",)),
    ("wait\non p a\nend", ("wait", (("p", "a", ()),))),
    ("wait\non q b\n  home\non p a\n  hear p a\n  fail\nend",
     ("wait", (("q", "b", (("home",),)), ("p", "a", (("hear", "p", "a"), ("fail",)))))),
    ("open\nend", ("open", ((),))), ("open\nor\nend", ("open", ((), ()))),
    ("open\n  home\nor\nor\n  fail\n  fail\nend", ("open", ((("home",),), (), (("fail",), ("fail",))))),
    ("if 1\nelse\nend", ("if", 1, (), ())), ("if (not a)\n  home\nelse\n  fail\nend",
                                             ("if", ("not", A), (("home",),), (("fail",),))),
    ("repeat\n  hear p a\nend", ("repeat", (("hear", "p", "a"),))),
    ("repeat\n  if a\n    leave\n  else\n    tell p a\n  end\nend",
     ("repeat", (("if", A, (("leave",),), (("tell", "p", A),)),))),
]
EXPRESSIONS = [
    ("0", 0), ("9", 9), ("a", A), ("(1 plus 2)", ("plus", 1, 2)), ("(a minus b)", ("minus", A, ("name", "b"))),
    ("(0 same a)", ("same", 0, A)), ("(a less 0)", ("less", A, 0)), ("(not a)", ("not", A)),
    ("(not (not 0))", ("not", ("not", 0))),
    ("((a plus 1) less (not (2 same 3)))", ("less", ("plus", A, 1), ("not", ("same", 2, 3)))),
    ("((((1 plus 2) plus 3) plus 4) plus 5)", ("plus", ("plus", ("plus", ("plus", 1, 2), 3), 4), 5)),
    ("(not (not (not (not a))))", ("not", ("not", ("not", ("not", A))))),
]
WRONG_EXPRESSIONS = [
    "", "10", "-1", "A", "a b", "1 2", "plus", "not", "(a)", "(1)", "()", "(a plus)", "(plus a)", "(a plus b",
    "a plus b",
    "a plus b)", "(a plus b))", "((a plus b)", "(a plus b) ", " (a plus b)", "( a plus b)", "(a plus b )",
    "(a  plus b)",
    "(a plus  b)", "(a plusb)", "(aplus b)", "(a plus b c)", "(a and b)", "(a same)", "(not)", "(not a b)", "not a",
    "(nota)",
    "(not (a))", "(not(a plus b))", "((a plus b)plus c)", "(a plus(b plus c))", "(a plus (not b)", "(a PLUS b)",
    "(1 plus 10)",
    "(if plus 1)", "(a or b)", "a)", "(a", ")", "(", "((", "(((((((((", "(" * 100000, "(not " * 100000, ")(",
    "(a plus b)(",
    "(not (not (not (not (not a)))))", "(((((1 plus 2) plus 3) plus 4) plus 5) plus 6)",
    "(1 plus (not (not (not (not 2)))))",
    "(a plus", "(not", "(not (not", "(a plus (b same", "(a", "((a plus b) less", "A a plus b)", "10 a plus b)",
    "x a plus b)",
    "not a)", "abcdefghi", "a.", "(a plus 1).", "[a plus b]", "(a plus b) c", "home", "0x1", "_", "1.", "~",
    "(a minus plus)",
]
OPENERS = ["open", "repeat", "if 1"]
LONG = """open
  if 1
    home
  else
    wait
    on p a
      fail
    end
  end
or
  repeat
    home
  end
end"""


def wrong_line(text):
    return caught(BadText, read_routine, text)


def lines(*parts):
    return "\n".join(parts)


class Texts(unittest.TestCase):
    def check(self, text, block):
        routine = Routine(block)
        self.assertEqual(routine_text(routine), text)
        self.assertEqual(read_routine(text), routine)
        self.assertIs(type(read_routine(text)), Routine)

    def test_each_statement(self):
        for text, statement in STATEMENTS:
            self.check(text, (statement,))
            self.check(lines("home", text, "fail"), (("home",), statement, ("fail",)))

    def test_each_expression(self):
        for text, value in EXPRESSIONS:
            for head, begin in (("set a ", ("set", "a")), ("tell p ", ("tell", "p"))):
                self.check(head + text, ((*begin, value),))
            self.check(f"if {text}\nelse\nend", (("if", value, (), ()),))

    def test_blocks_within_blocks(self):
        for text, statement in STATEMENTS:
            inner = lines(*["  " + line for line in text.split("\n")])
            for before, after, wrap in (
                ("wait\non p a\n", "\nend", lambda s: ("wait", (("p", "a", (s,)),))),
                ("wait\non q b\non p a\n", "\non r c\nend",
                 lambda s: ("wait", (("q", "b", ()), ("p", "a", (s,)), ("r", "c", ())))),
                ("open\n", "\nor\nend", lambda s: ("open", ((s,), ()))),
                ("open\nor\n", "\nor\n  home\nend", lambda s: ("open", ((), (s,), (("home",),)))),
                ("if a\n", "\nelse\nend", lambda s: ("if", A, (s,), ())),
                ("if a\nelse\n", "\nend", lambda s: ("if", A, (), (s,))),
                ("repeat\n  hear z z\n", "\nend", lambda s: ("repeat", (("hear", "z", "z"), s))),
            ):
                self.check(before + inner + after, (wrap(statement),))

    def test_the_empty_top_block(self):
        self.check("", ())

    def test_names(self):
        for name in GOOD_NAMES:
            self.check(f"set {name} {name}", (("set", name, ("name", name)),))
            self.check(f"hear {name} {name}", (("hear", name, name),))
            self.check(f"tell {name} 1", (("tell", name, 1),))
            self.check(f"wait\non {name} {name}\nend", (("wait", ((name, name, ()),)),))

    def test_bounds(self):
        self.check(lines(*["home"] * 12), (("home",),) * 12)
        for block in (many_statements(6000), nested((("home",),), lambda b: (("open", (b, ())),), 11)):
            routine = Routine(block)
            self.assertEqual(read_routine(routine_text(routine)), routine)
        four = tuple((port, "a", (("home",),)) for port in "srqp")
        for statement in (("wait", four), ("open", ((),) * 4)):
            routine = Routine((statement,))
            self.assertEqual(read_routine(routine_text(routine)), routine)

    def test_the_documents_example(self):
        own = Routine((("hear", "p", "a"), ("open", ((("tell", "q", 1),), (("tell", "q", ("plus", A, 2)),)))))
        self.assertEqual([routine_text(own), read_routine(routine_text(own)) == own],
                         ["hear p a\nopen\n  tell q 1\nor\n  tell q (a plus 2)\nend", True])

    def test_by_name_and_in_its_module(self):
        self.assertEqual(routine_text(routine=Routine((("home",),))), "home")
        self.assertEqual(read_routine(text="home"), Routine((("home",),)))
        self.assertEqual(read_play(text=play_text(play=example_play())), example_play())
        for name in ("routine_text", "play_text", "read_routine", "read_play"):
            self.assertEqual(getattr(module, name).__module__, "onlyheard.texts")


class WrongLines(unittest.TestCase):
    def test_no_string(self):
        for value in wrong_values() + [b"home", ["home"], ("home",), {"home": 1}]:
            if not isinstance(value, str):
                for read in (read_routine, read_play):
                    self.assertEqual(repr(caught(BadText, read, value)), "0")
        self.assertEqual(caught(BadText, read_routine, text=None), 0)
        self.assertEqual(caught(BadText, read_play, text=None), 0)

    def test_words(self):
        for value in WRONG_NAMES + ["Home", "home ", "homes", "home home", "leave", "end", "or", "else", "on p a",
            "on", "tell",
                                    "tell p", "hear p", "hear p a b", "hear  p a", "hear p  a", "hear p a ", "set a",
                                    "set 1 a",
                                    "set a 1 1", "tell p 1 ", "tell 1 p", "wait ", "wait p", "open 1", "repeat 1",
                                    "if", "if ",
                                    "if a b", "fail 1", "routine a", "own a", "over", "a", "\t", "home\r", "#", "hear",
                                    "set", "put a 1", "sets a 1",
                                    "Set a 1", "name a 1", "plus a 1", "end a 1", "open a 1", "(a plus 1)", "1",
                                    "a 1 1"]:
            if value in ("home", "fail") or "\n" in value or value in ("wait", "open", "repeat", ""):
                continue
            for number, before in enumerate(["", "home\n", "home\nfail\n"], 1):
                self.assertEqual(repr(wrong_line(before + value)), repr(number))
                self.assertEqual(wrong_line(before + value + "\nhome"), number)

    def test_names(self):
        for name in [name for name in WRONG_NAMES if "\n" not in name]:
            for line in (f"set {name} 1", f"tell {name} 1", f"hear {name} a", f"hear a {name}"):
                self.assertEqual(wrong_line(line), 1)
                self.assertEqual(wrong_line("home\n" + line), 2)
            for line in (f"on {name} a", f"on a {name}"):
                self.assertEqual(wrong_line("wait\n" + line + "\nend"), 2)

    def test_expressions(self):
        for text in WRONG_EXPRESSIONS:
            for line in (f"set a {text}", f"tell p {text}", f"if {text}"):
                self.assertEqual(wrong_line(line), 1)
                self.assertEqual(wrong_line(f"fail\n{line}\nelse\nend"), 2)

    def test_empty_lines_and_line_feeds(self):
        for text, number in (("\n", 1), ("\nhome", 1), ("home\n", 2), ("home\n\nhome", 2), ("home\n\n", 2), (" ", 1),
            ("  ", 1),
                             ("home\n ", 2), ("open\n\nend", 2), ("open\n  \nend", 2), ("open\nend\n", 3),
                             ("\n\n\n", 1)):
            self.assertEqual(wrong_line(text), number)

    def test_spaces(self):
        read_routine(LONG)
        rows = LONG.split("\n")
        for index, row in enumerate(rows):
            for wrong in (" " + row, "  " + row, row + " ", row[1:] if row[0] == " " else "   " + row, "\t" + row,
                          row[2:] if row[0] == " " else "    " + row):
                text = lines(*rows[:index], wrong, *rows[index + 1:])
                self.assertEqual(wrong_line(text), index + 1)
                self.assertEqual(wrong_line(lines(*rows[:index], wrong)), index + 1)

    def test_cut_behind_each_line(self):
        rows = lines("fail", LONG, "fail", LONG).split("\n")
        for many in range(len(rows) + 1):
            if many in (0, 1, 15, 16, 30):
                read_routine(lines(*rows[:many]))
            else:
                self.assertEqual(wrong_line(lines(*rows[:many])), many + 1)

    def test_marks_of_other_statements(self):
        for text, number in (
            ("open\nelse\nend", 2), ("open\non p a\nend", 2), ("if 1\nor\nelse\nend", 2), ("if 1\nend", 2),
            ("if 1\nelse\nelse\nend", 3), ("if 1\nelse\nor\nend", 3), ("if 1\non p a", 2), ("repeat\n  home\nor", 3),
            ("repeat\n  home\nelse", 3), ("repeat\n  home\non p a", 3), ("wait\nor", 2), ("wait\nelse", 2),
            ("wait\non p a\nor", 3),
            ("wait\non p a\nelse", 3), ("wait\n  home\nend", 2), ("wait\nhome", 2), ("open\nor 1\nend", 2),
            ("open\nend 1", 2),
            ("if 1\nelse \nend", 2), ("wait\non p\nend", 2), ("wait\non p a b\nend", 2), ("wait\non\nend", 2),
            ("open\nend\nend", 3),
            ("open\nend\nor", 3), ("if 1\nelse\nend\nend", 4), ("wait\non p a\nend\non q b", 4), ("open\n  or\nend", 2),
            ("open\n  end\nend", 2), ("if 1\n  else\nend", 2),
        ):
            self.assertEqual(wrong_line(text), number)

    def test_a_thirteenth_statement(self):
        self.assertEqual(wrong_line(lines(*["home"] * 13)), 13)
        self.assertEqual(wrong_line(lines(*["home"] * 12, "open")), 13)
        self.assertEqual(wrong_line(lines(*["open\nend"] * 12, "open\nend")), 25)
        for begin, end in (("open", "end"), ("if 1", "else"), ("repeat", "end"), ("wait\non p a", "end"),
                ("open\nor", "or")):
            many = begin.count("\n") + 1
            self.assertEqual(wrong_line(lines(begin, *["  home"] * 13, end)), many + 13)
            self.assertEqual(wrong_line(lines(begin, *["  home"] * 12)), many + 13)
            self.assertEqual(wrong_line(lines(begin, *["  home"] * 12, "  repeat", "    home", "  end", end)),
                many + 13)
        read_routine(lines("open", *["  home"] * 12, "or", *["  home"] * 12, "end", *["home"] * 11))

    def test_leave(self):
        for text, number in (
            ("leave", 1), ("open\n  leave\nend", 2), ("if 1\n  leave\nelse\nend", 2), ("wait\non p a\n  leave\nend", 3),
            ("repeat\n  home\nend\nleave", 4), ("repeat\n  home\n  leave\nend\nopen\n  leave\nend", 6),
        ):
            self.assertEqual(wrong_line(text), number)
        for text in ("repeat\n  leave\nend",
                     "repeat\n  open\n    if 1\n      leave\n    else\n      home\n    end\n  end\nend",
                     "repeat\n  wait\n  on p a\n    leave\n  end\nend"):
            self.assertEqual(routine_text(read_routine(text)), text)

    def deep(self, opener, many):
        """The lines of `many` open statements within one another."""
        return ["  " * k + opener for k in range(many)]

    def test_blocks_that_are_too_deep(self):
        for opener in OPENERS:
            for last in OPENERS:
                right = self.deep(opener, 10) + ["  " * 10 + last]
                self.assertEqual(wrong_line(lines(*right)), 12)
                self.assertEqual(wrong_line(lines(*right, "  " * 11 + "home")), 13)
                for more in OPENERS + ["wait"]:
                    self.assertEqual(wrong_line(lines(*right, "  " * 11 + more)), 12)
                    rows = [*right, "  " * 11 + "home", "  " * 11 + more, "  " * 12 + "home"]
                    self.assertEqual(wrong_line(lines(*rows)), 13)

    def test_rows(self):
        rows = ["on p a", "on q a", "on r b", "on s c", "on t d"]
        for many in range(1, 5):
            read_routine(lines("wait", *rows[:many], "end"))
            for again in rows[:many]:
                other = again[:-1] + "z"
                self.assertEqual(wrong_line(lines("wait", *rows[:many], "  home", other, "end")), many + 3)
        self.assertEqual(wrong_line(lines("wait", *rows, "end")), 6)
        self.assertEqual(wrong_line("wait\nend"), 2)
        self.assertEqual(wrong_line("wait\non p a\n  wait\n  end\nend"), 4)
        # Another wait may have the same port.
        read_routine("wait\non p a\n  wait\n  on p a\n  end\non q a\nend\nwait\non p a\nend")

    def test_blocks_of_open(self):
        for many in range(1, 5):
            text = lines("open", *["or"] * (many - 1), "end")
            self.assertEqual(len(read_routine(text).block[0][1]), many)
        self.assertEqual(wrong_line(lines("open", *["or"] * 4, "end")), 5)
        rows = ["open", "  home", "or", "or", "  open", "  or", "  end", "or", "  fail", "or"]
        self.assertEqual(wrong_line(lines(*rows)), 10)

    def test_repeats_that_do_not_deal(self):
        for text, number in (
            ("repeat\nend", 2), ("repeat\n  set a 1\nend", 3), ("repeat\n  if 1\n    home\n  else\n  end\nend", 6),
            ("repeat\n  open\n    tell p 1\n  or\n  end\nend", 6), ("repeat\n  repeat\n    leave\n  end\nend", 5),
            ("repeat\n  repeat\n    set a 1\n  end\nend", 4),
            ("home\nrepeat\n  open\n  end\nend\nrepeat\n  home\nend", 5),
            ("repeat\n  repeat\n    if 1\n      leave\n    else\n      hear p a\n    end\n  end\nend", 9),
        ):
            self.assertEqual(wrong_line(text), number)
            rows = text.split("\n")
            self.assertEqual(wrong_line(lines(*rows[:number])), number)
            self.assertEqual(wrong_line(lines(*rows[:number - 1])), number)
        for text in ("repeat\n  leave\nend", "repeat\n  fail\nend", "repeat\n  set a 1\n  hear p a\nend",
                     "repeat\n  repeat\n    leave\n  end\n  home\nend"):
            self.assertEqual(routine_text(read_routine(text)), text)

    def test_repeats_in_the_deepest_block(self):
        begin, end = self.deep("if 1", 10), ["  " * k + "else\n" + "  " * k + "end" for k in reversed(range(10))]
        inner = "  " * 10
        read_routine(lines(*begin, inner + "repeat", inner + "  home", inner + "end", *end))
        self.assertEqual(wrong_line(lines(*begin, inner + "repeat", inner + "  set a 1", inner + "end", *end)), 13)

    def test_the_6001st_statement(self):
        rows = routine_text(Routine(many_statements(6000))).split("\n")
        read_routine(lines(*rows, *["set a 1"] * 0))
        for more in ("home", "open\nend", "repeat\n  home\nend"):
            self.assertEqual(wrong_line(lines(*rows, more)), len(rows) + 1)
        # Where an earlier line is a statement more, the last statement is one too many.
        last = max(index for index, row in enumerate(rows) if row.strip() not in ("end", "else", "or"))
        self.assertEqual(wrong_line(lines("home", *rows)), last + 2)

    def test_judged_by_the_lines_up_to_it_alone(self):
        # None of these can go on to a right end, but each line itself can stand there.
        full = ["  set a 1"] * 12
        self.assertEqual(wrong_line(lines("repeat", *full)), 14)
        self.assertEqual(wrong_line(lines("repeat", *full, "end")), 14)
        rows = routine_text(Routine(many_statements(6000)[:-1])).split("\n")
        self.assertEqual(wrong_line(lines(*rows, "wait")), len(rows) + 2)
        self.assertEqual(wrong_line(lines(*rows, "wait", "on p a", "end", "nothing")), len(rows) + 4)
        self.assertEqual(wrong_line("home\nwait\n\nleave"), 3)


class Plays(unittest.TestCase):
    text = "routine a\n  home\nroutine b\nroutine us\n  open\n    hear p a\n  or\n  end\nown us\nover p q"

    def wrong(self, *parts):
        return caught(BadText, read_play, lines(*parts))

    def test_what_is_written_is_read(self):
        own = Routine((("open", ((("hear", "p", "a"),), ())),))
        for over, last in ((("p", "q"), "over p q"), ((), "over"), (("z",), "over z")):
            play = Play({"us": own, "b": Routine(()), "a": Routine((("home",),))}, "us", over)
            text = self.text[:-len("over p q")] + last
            self.assertEqual(play_text(play), text)
            self.assertEqual(read_play(text), play)
        for play in (example_play(), example_play(("p", "q")), four_play(), four_play(("r", "x"))):
            self.assertEqual(read_play(play_text(play)), play)
            self.assertIs(type(read_play(play_text(play))), Play)
        for own in ("a", "b", "us"):
            play = read_play(self.text.replace("own us", f"own {own}"))
            self.assertEqual(play.own, own)

    def test_empty_routines(self):
        play = Play({"a": Routine(()), "b": Routine(())}, "b")
        self.assertEqual(play_text(play), "routine a\nroutine b\nown b\nover")
        self.assertEqual(read_play("routine a\nroutine b\nown b\nover"), play)

    def test_the_largest_play(self):
        routine = Routine(many_statements(6000))
        play = Play({name: routine for name in "abcd"}, "d", tuple(GOOD_NAMES[:1]))
        self.assertEqual(read_play(play_text(play)), play)

    def test_cut_behind_each_line(self):
        rows = self.text.split("\n")
        for many in range(1, len(rows)):
            self.assertEqual(self.wrong(*rows[:many]), many + 1)
        self.assertEqual(caught(BadText, read_play, ""), 1)

    def test_wrong_lines(self):
        rows = self.text.split("\n")
        for index, row in enumerate(rows):
            for wrong in (" " + row, "  " + row, row + " ", "", "x", "routine", "own", "routine  x", "own  a",
                          "\t" + row,
                          "end", "own no", "over p p" if index == 9 else "over p q ", "over  p", "Routine c",
                          "routine a b", "own us us"):
                if wrong.startswith("  ") and row == "routine b" or row == wrong:
                    continue
                self.assertEqual(self.wrong(*rows[:index], wrong, *rows[index + 1:]), index + 1, (wrong, row))
                self.assertEqual(self.wrong(*rows[:index], wrong), index + 1)

    def test_begin(self):
        for line in ("", "own a", "over", "  home", "home", "routine", "routine 1", "routine home", "routine abcdefghi",
                     "routine A",
                     "routine a ", "routine  a", " routine a", "routines a", "routine a b", "\t", " "):
            self.assertEqual(self.wrong(line), 1)
            self.assertEqual(self.wrong(line, *self.text.split("\n")), 1)

    def test_names_of_routines(self):
        for first, second in (("b", "a"), ("b", "b"), ("ab", "a"), ("us", "foe"), ("b", "ab")):
            self.assertEqual(self.wrong(f"routine {first}", "  home", f"routine {second}"), 3)
        for name in WRONG_NAMES:
            if "\n" not in name:
                self.assertEqual(self.wrong("routine a", f"routine {name}"), 2)
        four = ["routine a", "routine b", "routine c", "routine d"]
        read_play(lines(*four, "own d", "over"))
        self.assertEqual(self.wrong(*four, "routine e", "own d", "over"), 5)

    def test_where_a_statement_is_open(self):
        for line in ("routine c", "own a", "over", "routine a"):
            for opener in OPENERS + ["wait"]:
                self.assertEqual(self.wrong("routine a", "routine b", "  " + opener, line), 4)
                self.assertEqual(self.wrong("routine a", "  " + opener, line, "routine b"), 3)
        self.assertEqual(self.wrong("routine a", "routine b", "  open"), 4)

    def test_own(self):
        self.assertEqual(self.wrong("routine a", "own a"), 2)
        for name in ("c", "", "A", "ab", "own", "a "):
            self.assertEqual(self.wrong("routine a", "routine b", f"own {name}", "over"), 3)
        self.assertEqual(self.wrong("routine a", "routine b", "own"), 3)
        self.assertEqual(self.wrong("routine a", "routine b", "own a", "own a", "over"), 4)
        self.assertEqual(self.wrong("routine a", "routine b", "own a", "routine c"), 4)
        self.assertEqual(self.wrong("routine a", "routine b", "own a", "  home"), 4)
        self.assertEqual(self.wrong("routine a", "routine b", "over"), 3)
        self.assertEqual(self.wrong("routine a", "routine b", "own a"), 4)

    def test_over(self):
        begin = ["routine a", "routine b", "own a"]
        for line in ("over ", "over  p", "over p ", "over q p", "over p p", "over p  q", "over P", "over 1", "over on",
                     "over p set",
                     "overp", "over\tp", " over", "over abcdefghi", "Over", "over p,q", "over ab a"):
            self.assertEqual(self.wrong(*begin, line), 4)
        for line, over in (("over", ()), ("over p", ("p",)), ("over a ab b", ("a", "ab", "b"))):
            self.assertEqual(read_play(lines(*begin, line)).over, over)
            for more in ("", " ", "over", "home", "  home", "routine c", "own a", "\n"):
                self.assertEqual(self.wrong(*begin, line, more), 5)

    def test_lines_of_routines(self):
        for text, number in (
            (["routine a", "  leave"], 2), (["routine a", "home"], 2), (["routine a", "   home"], 2),
            (["routine a", "    home"], 2),
            (["routine a", "  home", "  "], 3), (["routine a", "  home", ""], 3), (["routine a", "  wait", "  end"], 3),
            (["routine a", *["  home"] * 13], 14), (["routine a", *["  home"] * 12, "routine b", *["  home"] * 13], 27),
            (["routine a", "  repeat", "    set a 1", "  end"], 4), (["routine a", "  end"], 2),
            (["routine a", "  routine b"], 2),
            (["routine a", "  open", "  or", "  or", "  or", "  or"], 6), (["routine a", "  open", "    own a"], 3),
        ):
            self.assertEqual(self.wrong(*text), number)
            self.assertEqual(self.wrong(*text, "routine z", "own a", "over"), number)


class Again(unittest.TestCase):
    def test_asked_again(self):
        for _ in range(2):
            caught(BadText, read_routine, "open\n  set a 1\nor")
            self.assertEqual(read_routine("home"), Routine((("home",),)))
            caught(BadText, read_play, "routine a\n  open")
            self.assertEqual(read_play(play_text(example_play())), example_play())


if __name__ == "__main__":
    unittest.main()
