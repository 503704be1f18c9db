"""[2], [3], [4], [10]: the kinds of values."""

import unittest

from centbook.kinds import is_fraction, is_integer, is_name, is_number, is_sheet, is_state
from tests.samples import ODD_VALUES, changed, day, line, random_sheet

HUGE = 10 ** 70
STATE = (("fax", (1, 2), 1, True), ("tel", (3, 4), 0, True))
SHEET = (STATE, (("fax", "tel"),), (((1, 3), (1, 2)), ((0, 1), (5, 4))))
FOUR = tuple(line(name) for name in "abcd")


def deep(thing, times):
    for _ in range(times):
        thing = (thing,)
    return thing


class KindsTest(unittest.TestCase):
    def check(self, kind, things, expected):
        for thing in things:
            self.assertIs(kind(thing), expected, repr(thing))
            self.assertIs(kind(thing=thing), expected, repr(thing))

    def test_integer(self):
        self.check(is_integer, (0, 1, -1, HUGE, -HUGE), True)
        self.check(is_integer, (True, False, None, "1", "", (), (1,), [], [1], (0, 1)), False)

    def test_number(self):
        self.check(is_number, (0, 1, 17, HUGE), True)
        self.check(is_number, (-1, -HUGE, True, False, None, "0", (), (1,), [1]), False)

    def test_name(self):
        self.check(is_name, ("a", "z", "tel", "abcdefgh", "line", "day", "total", "self"), True)
        self.check(is_name, ("", "abcdefghi", "A", "teL", "a b", " a", "a ", "a1", "a-", "-", "a\n", "\n", "_"), False)
        self.check(is_name, (True, None, 0, 5, ("a",), ["a"], (), [], ("t", "e", "l")), False)

    def test_fraction(self):
        self.check(is_fraction, ((0, 1), (1, 1), (-1, 1), (1, 2), (-7, 3), (HUGE, 1), (1, HUGE), (HUGE, HUGE + 1)), True)
        self.check(is_fraction, ((2, 4), (0, 2), (0, 0), (1, 0), (1, -2), (-1, -2), (0, -1), (-2, 4), (HUGE, HUGE)), False)
        self.check(is_fraction, ([1, 2], (1,), (1, 2, 3), (), (True, 2), (1, True), (False, 1), ("1", 2), (1, "2")), False)
        self.check(is_fraction, (None, 1, 0, True, "1/2", "12", ((1, 2),), ((1, 2), (1, 2)), (None, 1), ([], 1)), False)

    def test_state(self):
        good = (
            STATE, (("a", (1, 2), -1, True),), (("a", (0, 1), 0, False),), FOUR,
            tuple(line(name) for name in ("a", "aa", "ab", "b", "ba", "c", "d", "e", "f", "line")),
            (("a", (HUGE, 3), -HUGE, True),),
        )
        self.check(is_state, good, True)

    def test_no_state(self):
        first, second = STATE
        bad = [(), [], list(STATE), (second, first), (first, first), first, (STATE,), (first, list(second)), SHEET]
        for k, things in enumerate((
            ("", "A", "abcdefghi", 1, None, ("a",), True),
            ((-1, 2), (2, 4), (1, 0), [1, 2], 1, "1", None, (True, 2), (1, True)),
            (True, False, None, "1", (1, 2), (1,)),
            (1, 0, None, "True", (), (True,)),
        )):
            bad.extend((changed(first, k, thing),) for thing in things)
        bad.extend([(first[:3],), (first + (True,),), ((),), (None,)])
        self.check(is_state, bad, False)

    def test_sheet(self):
        good = (
            SHEET, (STATE, (), ()), (STATE, (), ((),)[:0]), (FOUR, (("a", "b"), ("a", "b", "c"), ("a", "b", "c", "d")), ()),
            (FOUR, (("a", "b"), ("c", "d")), ()), (FOUR, (("a", "b", "c", "d"), ("a", "c"), ("b", "d")), ()),
            ((line("a", 1, 5, False),), (), (day(0), day(0))), (FOUR, (), (day(0, 0, 0, HUGE),) * 40),
        )
        self.check(is_sheet, good, True)
        self.check(is_sheet, [random_sheet(seed) for seed in range(100)], True)

    def test_no_sheet(self):
        state, sections, days = SHEET
        bad = [
            (), [], list(SHEET), SHEET[:2], SHEET + ((),), STATE, days, ((), (), ()), (list(state), sections, days),
            (state, list(sections), days), (state, sections, list(days)), (None, (), ()), (state, None, ()),
            (state, (), None), (state[::-1], (), ()), ([], (), ()), ("", (), ()), (state, "", ()), (state, (), ""),
        ]
        for odd in ODD_VALUES:
            bad.append((odd, sections, days))
            if odd != ():
                bad.append((state, odd, days))
                bad.append((state, sections, odd))
            bad.append((state, (odd,), days))
            bad.append((state, sections, (odd, days[1])))
            bad.append((state, sections, changed(days, 1, (days[1][0], odd))))
        self.check(is_sheet, bad, False)

    def test_sections(self):
        bad = (
            ((),), (("a",),), (("b", "a"),), (("a", "a"),), (("a", "a", "b"),), (("a", "e"),), (["a", "b"],), ("ab",),
            (("a", "b"), ("a", "b")), (("c", "d"), ("a", "b")), (("a", "b"), ("b", "c")), (("a", "b", "c"), ("b", "c", "d")),
            (("a", "b"), ("a", "c")), (("a", "A"),), (("a", 1),), (("a", True),), (("a", "b"), None),
            (("a", "b", "c"), ("a", "b")), (("a", "b"), ("c", "d"), ("c", "d", "e")), (("a", "c"), ("a", "d"), ("a", "c", "d")),
        )
        self.check(is_sheet, [(FOUR, sections, ()) for sections in bad], False)

    def test_days(self):
        state = (line("a"), line("b", 1, 1, False))
        bad = (
            ((),), (day(0),), (day(0, 0, 0),), (day(-1, 0),), (day(0, 1),), (day(0, -1),), (((2, 4), (0, 1)),),
            ((0, 0),), (((0, 1), 0),), ([(0, 1), (0, 1)],), (((True, 1), (0, 1)),), (((1, True), (0, 1)),),
            (((0, 2), (0, 1)),), (day(0, 0), day(0)), (day(0, 0), day(0, 0, 0)), (([0, 1], (0, 1)),), (day(0, 0), None),
        )
        self.check(is_sheet, [(state, (), days) for days in bad], False)
        self.check(is_sheet, [(state, (), (day(5, 0), day(0, 0)))], True)

    def test_any_value(self):
        things = [*ODD_VALUES, SHEET, list(SHEET), deep((), 30), deep("a", 30), ((1, 2),) * 2500, [[1] * 4000]]
        for thing in things:
            for kind in (is_integer, is_number, is_name, is_fraction, is_state, is_sheet):
                self.assertIn(kind(thing), (True, False))
                self.assertIs(type(kind(thing)), bool)

    def test_arguments_do_not_change(self):
        thing = [[("a", [0, 1], 0, True)], [["a", "b"]], [[[0, 1]]]]
        self.assertFalse(is_sheet(thing))
        self.assertEqual(thing, [[("a", [0, 1], 0, True)], [["a", "b"]], [[[0, 1]]]])

    def test_examples(self):
        found = [is_fraction((2, 4)), is_fraction((0, 1)), is_number(True), is_state((("a", (1, 2), -1, True),)), is_state(())]
        self.assertEqual(found, [False, True, False, True, False])


if __name__ == "__main__":
    unittest.main()
