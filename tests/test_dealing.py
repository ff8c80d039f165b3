"""[9], [10]: whether the blocks of repeats deal."""

import unittest

import reference
from samples import repeated_if, wrong_at

TELL = ("tell", "p", 1)
HEAR = ("hear", "p", "a")
WAIT = ("wait", (("p", "a", ()),))
SET = ("set", "a", 1)
LEAVE = ("leave",)
HOME = ("home",)
FAIL = ("fail",)


def branch(*blocks):
    return ("if", ("name", "a"), *blocks)


def line(*blocks):
    return ("open", blocks)


def repeat(*statements):
    return ("repeat", statements)


class Dealing(unittest.TestCase):
    def deals(self, *statements):
        for block in ((repeat(*statements),), (TELL, repeat(*statements))):
            self.assertEqual(wrong_at(block), "right")
            self.assertEqual(reference.first_wrong(block), "right")

    def deals_not(self, *statements):
        for block in ((repeat(*statements),), (repeat(*statements), None, LEAVE)):
            self.assertEqual(wrong_at(block), (0,))
            self.assertEqual(reference.first_wrong(block), (0,))
        self.assertEqual(wrong_at((TELL, branch((TELL,), (repeat(*statements),)))), (1, 1, 0))

    def test_tell_hear_wait(self):
        for deed in (TELL, HEAR, WAIT, ("wait", (("p", "a", (SET,)), ("q", "a", (LEAVE,))))):
            self.deals(deed)
            self.deals(SET, deed)
            self.deals(deed, SET)

    def test_without_dealing(self):
        self.deals_not()
        self.deals_not(SET)
        self.deals_not(*[SET] * 12)
        self.deals_not(branch((), ()))

    def test_a_deed_within_one_block_only(self):
        for deed in (TELL, HEAR, WAIT):
            self.deals_not(branch((deed,), ()))
            self.deals_not(branch((), (deed,)))
            self.deals(branch((deed,), (deed,)))
            self.deals(branch((SET, deed), (deed, SET)))
            self.deals_not(line((deed,), ()))
            self.deals_not(line((deed,), (deed,), (SET,), (deed,)))
            self.deals(line((deed,), (deed,), (deed,), (deed,)))
            self.deals(line((deed,)))
            self.deals(branch((deed,), ()), deed)
            self.deals(deed, branch((deed,), ()))

    def test_an_open_line_by_itself_is_no_dealing(self):
        self.deals_not(line(()))
        self.deals_not(line((SET,), (SET,)))

    def test_each_if_is_judged_by_itself(self):
        self.deals_not(branch((TELL,), ()), branch((), (TELL,)))
        self.deals_not(("if", 1, (TELL,), ()))
        self.deals_not(("if", 0, (), (TELL,)))
        self.deals_not(("if", ("same", 1, 1), (TELL,), ()))

    def test_leave_home_and_fail_do_not_come_to_the_end(self):
        for ending in (LEAVE, HOME, FAIL):
            self.deals(ending)
            self.deals(SET, ending, SET)
            self.deals(branch((ending,), (TELL,)))
            self.deals(branch((ending,), (ending,)), SET)
            self.deals(line((TELL,), (ending,)))
            self.deals_not(branch((ending,), ()))
            self.deals_not(line((ending,), (TELL,), (SET,)))
            self.deals_not(branch((TELL,), ()), branch((ending,), ()))

    def test_inner_repeats_are_gone_through_by_their_leaves(self):
        self.deals(repeat(TELL))
        self.deals(repeat(TELL), SET)
        self.deals_not(repeat(LEAVE))
        self.deals_not(repeat(branch((LEAVE,), (TELL,))))
        self.deals(repeat(TELL, LEAVE))
        self.deals(repeat(branch((LEAVE,), (TELL,))), TELL)
        self.deals(repeat(branch((LEAVE,), (TELL,))), LEAVE)
        self.deals(repeat(HOME))
        self.deals(repeat(branch((FAIL,), (HOME,))))
        self.deals(repeat(TELL, branch((LEAVE,), ())))
        self.deals_not(repeat(line((TELL,), (SET, LEAVE))), SET)
        self.deals_not(repeat(branch((TELL, LEAVE), (LEAVE,))))

    def test_a_leave_is_one_of_the_innermost_repeat(self):
        self.deals_not(repeat(repeat(LEAVE), LEAVE))
        self.deals(repeat(repeat(TELL, LEAVE), LEAVE))
        self.deals(repeat(repeat(LEAVE), branch((LEAVE,), (TELL,))), TELL)
        self.deals(branch((LEAVE,), (TELL,)), repeat(branch((LEAVE,), (TELL,))))
        self.deals_not(branch((LEAVE,), ()), repeat(branch((LEAVE,), (TELL,))))

    def test_the_outer_repeat_may_deal_where_the_inner_one_does_not(self):
        self.assertEqual(wrong_at((repeat(repeat(SET)),)), (0, 0, 0))
        self.assertEqual(wrong_at((repeat(TELL, repeat(SET)),)), (0, 0, 1))
        self.assertEqual(wrong_at((repeat(repeat()),)), (0, 0, 0))
        self.assertEqual(wrong_at((repeat(SET, repeat(repeat(SET))),)), (0, 0, 1, 0, 0))

    def test_where_neither_deals_the_outer_one_goes_first(self):
        self.assertEqual(wrong_at((repeat(repeat(branch((LEAVE,), ()))),)), (0,))
        self.assertEqual(wrong_at((repeat(TELL, repeat(branch((LEAVE,), ()))),)), (0, 0, 1))


class DealingOfWrongItems(unittest.TestCase):
    wrong = (
        None, True, 1, "set", (), [], ("set",), ("set", "a", True), ("set", "a", 10), ("set", "set", 1),
        ["set", "a", 1],
        ("leave", 1), ("home", ()), ("if", 1, ()), ("if", 1, (), []), ("if", True, (), ()), ("open", ()),
        ("open", ((),) * 5), ("repeat", ((),) * 13), ("repeat", [LEAVE]), ("wait", ()), ("plus", 1, 2),
    )

    def test_no_statement_counts_as_one_that_deals(self):
        for item in self.wrong:
            self.assertEqual(wrong_at((repeat(item),)), (0, 0, 0))
            self.assertEqual(wrong_at((repeat(SET, item, SET),)), (0, 0, 1))
            self.assertEqual(wrong_at((repeat(repeat(item, LEAVE)),)), (0, 0, 0, 0, 0))
            self.assertEqual(wrong_at((repeat(branch((item,), (TELL,))),)), (0, 0, 0, 0, 0))
            self.assertEqual(wrong_at((repeat(branch((item,), ())),)), (0,))
            self.assertEqual(wrong_at((repeat(line((TELL,), (item,))),)), (0, 0, 0, 1, 0))
            self.assertEqual(wrong_at((repeat(line((SET,), (item,))),)), (0,))

    def test_an_if_counts_as_always_where_it_is_wrong_only_within(self):
        self.assertEqual(wrong_at((repeat(branch((None,), (None,))),)), (0, 0, 0, 0, 0))
        self.assertEqual(wrong_at((repeat(branch((SET,), (SET, None))),)), (0,))

    def test_blocks_that_are_too_deep_count_as_dealing(self):
        deep = (0,) + (0, 0) * 11
        for inner in ((), (SET,), (LEAVE,), (None,)):
            for item in (branch(inner, inner), line(inner), ("repeat", inner)):
                # The item is in a block that is 12 deep, so its own ones are 13 deep.
                self.assertEqual(wrong_at((("repeat", repeated_if((item,), 10)),)), (0,))
                body = (item,)
                for _ in range(10):
                    body = (branch(body, (TELL,)),)
                self.assertEqual(wrong_at((("repeat", body),)), deep)
                body = (item,)
                for _ in range(11):
                    body = (("repeat", body),)
                self.assertEqual(wrong_at(body), deep)

    def test_one_less_deep_they_count_as_they_are(self):
        body = (branch((), ()),)
        for _ in range(9):
            body = (branch(body, (TELL,)),)
        self.assertEqual(wrong_at((("repeat", body),)), (0,))
        body = (branch((TELL,), (TELL,)),)
        for _ in range(9):
            body = (branch(body, (TELL,)),)
        self.assertEqual(wrong_at((("repeat", body),)), "right")


if __name__ == "__main__":
    unittest.main()
