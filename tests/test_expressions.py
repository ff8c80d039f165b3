"""[3], [8]: integers, names and expressions, each in each place where it may stand."""

import unittest

from onlyheard.routines import Routine
from onlyheard.stands import begun, heard, tells, told
from samples import GOOD_NAMES, KEPT_WORDS, WRONG_NAMES, nested, wrong_at, wrong_values

A = ("name", "a")
B = ("name", "b")


def value_at(expression, a, b):
    """What the expression gives, told at a port, where a and b have these values."""
    routine = Routine((("hear", "p", "a"), ("hear", "q", "b"), ("tell", "r", expression)))
    stand = heard(routine, heard(routine, begun(routine), "p", a), "q", b)
    return tells(routine, stand)[1]


def statements_with(expression):
    return [("set", "c", expression), ("tell", "p", expression), ("if", expression, (), ())]


class Values(unittest.TestCase):
    def check(self, expression, wanted):
        for a in range(10):
            for b in range(10):
                self.assertEqual(repr(value_at(expression, a, b)), repr(wanted(a, b)), (expression, a, b))

    def test_digits(self):
        for digit in range(10):
            self.assertEqual(repr(value_at(digit, 3, 4)), repr(digit))

    def test_name(self):
        self.check(A, lambda a, b: a)
        self.check(B, lambda a, b: b)

    def test_plus(self):
        self.check(("plus", A, B), lambda a, b: (a + b) % 10)

    def test_minus(self):
        self.check(("minus", A, B), lambda a, b: (a + 10 - b) % 10)

    def test_same(self):
        self.check(("same", A, B), lambda a, b: 1 if a == b else 0)

    def test_less(self):
        self.check(("less", A, B), lambda a, b: 1 if a < b else 0)

    def test_not(self):
        self.check(("not", A), lambda a, b: 1 if a == 0 else 0)

    def test_of_parts(self):
        self.check(
            ("minus", ("plus", A, ("not", ("less", A, B))), ("same", ("minus", B, 1), A)),
            lambda a, b: (a + (0 if a < b else 1) - (1 if (b - 1) % 10 == a else 0)) % 10,
        )

    def test_names_begin_with_zero_and_can_have_the_name_of_a_port(self):
        routine = Routine((("tell", "p", ("plus", ("name", "p"), 4)),))
        self.assertEqual(tells(routine, begun(routine)), ("p", 4))


class Forms(unittest.TestCase):
    def assert_everywhere(self, expression, right):
        for statement in statements_with(expression):
            self.assertEqual(wrong_at((statement,)), "right" if right else (0,))
            self.assertEqual(wrong_at((("home",), statement)), "right" if right else (1,))

    def test_digits_and_no_other_integers(self):
        for digit in range(10):
            self.assert_everywhere(digit, True)
        for value in (-1, 10, 11, -10, 10 ** 5000):
            self.assert_everywhere(value, False)

    def test_flags_are_no_digits(self):
        for flag in (True, False):
            for value in (flag, ("not", flag), ("plus", flag, 1), ("plus", 1, flag), ("same", A, ("not", flag))):
                self.assert_everywhere(value, False)

    def test_names(self):
        for name in GOOD_NAMES:
            self.assert_everywhere(("name", name), True)
        for name in WRONG_NAMES:
            self.assert_everywhere(("name", name), False)
        self.assertEqual(len(KEPT_WORDS), 22)

    def test_each_letter(self):
        for code in range(32, 127):
            letter = chr(code)
            self.assert_everywhere(("name", letter), "a" <= letter <= "z")
            self.assert_everywhere(("name", "x" + letter + "y"), "a" <= letter <= "z")

    def test_each_kind_takes_its_parts_and_no_other_number(self):
        for head in ("plus", "minus", "same", "less"):
            self.assert_everywhere((head, 1, A), True)
            for wrong in ((head,), (head, 1), (head, 1, 2, 3), [head, 1, 2]):
                self.assert_everywhere(wrong, False)
        self.assert_everywhere(("not", 1), True)
        for wrong in (("not",), ("not", 1, 2), ["not", 1], ("name",), ("name", "a", "b"), ["name", "a"]):
            self.assert_everywhere(wrong, False)
        for head in ("", "Plus", "plus ", "times", "set", "a", None, 1, True, ("plus",), ["plus"], {"plus": 1}):
            self.assert_everywhere((head, 1, 2), False)
            self.assert_everywhere((head, 1), False)
            self.assert_everywhere((head,), False)

    def test_five_deep_and_six_deep(self):
        wraps = [lambda part: ("not", part)]
        for head in ("plus", "minus", "same", "less"):
            wraps.append(lambda part, head=head: (head, part, 1))
            wraps.append(lambda part, head=head: (head, 1, part))
        for wrap in wraps:
            for leaf in (7, A):
                for times in range(5):
                    self.assert_everywhere(nested(leaf, wrap, times), True)
                for times in (5, 6, 40):
                    self.assert_everywhere(nested(leaf, wrap, times), False)

    def test_a_full_tree_five_deep(self):
        expression = nested(A, lambda part: ("plus", part, part), 4)
        self.assertEqual([value_at(expression, a, 0) for a in range(10)], [a * 16 % 10 for a in range(10)])
        self.assert_everywhere(("plus", expression, 1), False)

    def test_value_five_deep(self):
        expression = nested(A, lambda part: ("minus", 1, part), 4)
        self.assertEqual([value_at(expression, a, 0) for a in range(10)], list(range(10)))

    def test_wrong_values_of_every_kind(self):
        for value in wrong_values():
            self.assert_everywhere(value, False)
            self.assert_everywhere(("not", value), False)
            self.assert_everywhere(("plus", value, 1), False)
            self.assert_everywhere(("less", A, value), False)
            self.assert_everywhere(("name", value), False)


class InTells(unittest.TestCase):
    def test_a_set_changes_what_follows(self):
        routine = Routine((("set", "a", 4), ("set", "b", ("plus", A, A)), ("tell", "p", B), ("tell", "p", A)))
        first = begun(routine)
        self.assertEqual(first, ("at", (2,), (4, 8)))
        self.assertEqual([tells(routine, first), tells(routine, told(routine, first))], [("p", 8), ("p", 4)])

    def test_an_if_takes_its_first_block_at_each_digit_but_zero(self):
        routine = Routine((("hear", "p", "a"), ("if", A, (("tell", "q", 1),), (("tell", "q", 2),))))
        got = [heard(routine, begun(routine), "p", digit)[1] for digit in range(10)]
        self.assertEqual(got, [(1, 1, 0)] + [(1, 0, 0)] * 9)


if __name__ == "__main__":
    unittest.main()
