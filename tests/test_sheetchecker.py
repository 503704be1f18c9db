"""[11]: the checker of sheets."""

import unittest
from fractions import Fraction

from centbook.errors import InvalidPaper
from centbook.kinds import is_sheet
from centbook.sheetchecker import lets_sheet
from tests.samples import ODD_VALUES, changed, day, line, random_sheet

HALF = Fraction(1, 2)
STATE = (("fax", (1, 2), 1, True), ("tel", (3, 4), 0, True))
SHEET = (STATE, (("fax", "tel"),), (((1, 3), (1, 2)), ((0, 1), (5, 4))))
FOUR = tuple(line(name) for name in "abcd")
BELOW = ("b", (-1, 2), 0, True)


class SheetCheckerTest(unittest.TestCase):
    def check(self, thing, word, at):
        with self.assertRaises(InvalidPaper, msg=repr(thing)) as caught:
            lets_sheet(thing)
        self.assertEqual((caught.exception.word, caught.exception.at), (word, at), repr(thing))
        self.assertFalse(is_sheet(thing))

    def test_accepted(self):
        self.assertEqual(lets_sheet(SHEET), (2, 2))
        self.assertEqual(lets_sheet(thing=(STATE, (), ())), (2, 0))
        self.assertEqual(lets_sheet((FOUR, (("a", "b"), ("a", "b", "c"), ("a", "b", "c", "d")), (day(0, 0, 0, 0),) * 12)), (4, 12))
        for seed in range(50):
            sheet = random_sheet(seed)
            self.assertEqual(lets_sheet(sheet), (len(sheet[0]), len(sheet[2])))

    def test_shape(self):
        state, sections, days = SHEET
        for odd in ODD_VALUES:
            self.check(odd, "shape", -1)
            if odd not in ((), ((),)):
                self.check((odd, sections, days), "shape", -1)
                self.check((state, odd, days), "shape", -1)
                self.check((state, sections, odd), "shape", -1)
                self.check((state, (("fax", "tel"), odd), days), "shape", -1)
                self.check((state, sections, changed(days, 1, odd)), "shape", -1)
            self.check((changed(state, 1, odd), sections, days), "shape", -1)
            self.check((state, sections, changed(days, 0, ((1, 3), odd))), "shape", -1)
        for sheet in (list(SHEET), SHEET[:2], SHEET + (1,), (list(state), (), ()), (state, [], ()), (state, (), [])):
            self.check(sheet, "shape", -1)

    def test_shape_of_a_line(self):
        for k, odds in enumerate((
            ("", "A", "abcdefghi", 1, None, ("a",), "a1"),
            ((2, 4), (1, 0), [1, 2], 1, "1", None, (True, 2), (1, True), (1,), (1, 2, 3)),
            (True, False, None, "1", (1, 2)),
            (1, 0, None, "True"),
        )):
            for odd in odds:
                self.check((changed(STATE, 1, changed(STATE[1], k, odd)), (), ()), "shape", -1)
        self.check(((("a", (0, 1), 0),), (), ()), "shape", -1)
        self.check(((("a", (0, 1), 0, True, 1),), (), ()), "shape", -1)
        self.check(((["a", (0, 1), 0, True],), (), ()), "shape", -1)

    def test_shape_of_sections_and_days(self):
        for section in (["fax", "tel"], ("fax", "Tel"), ("fax", 1), "fax", ("fax", ""), (True,), (("fax",),)):
            self.check((STATE, (section,), ()), "shape", -1)
        for charge in ((2, 4), (0, 2), (True, 2), (1, True), 1, 0, [1, 2], "1/2", None, (1, -2), (-2, 4)):
            self.check((STATE, (), (((0, 1), charge),)), "shape", -1)

    def test_shape_comes_before_all(self):
        self.check(((), (), ((True,),)), "shape", -1)
        self.check(((line("b"), line("a")), (("a",),), ((0,),)), "shape", -1)

    def test_empty(self):
        self.check(((), (), ()), "empty", -1)
        self.check(((), (("b", "a"),), (day(1), day(-1))), "empty", -1)

    def test_line(self):
        self.check(((line("b"), line("a")), (), ()), "line", 1)
        self.check(((line("a"), line("a")), (), ()), "line", 1)
        self.check(((line("a"), line("c"), line("b"), line("a")), (), ()), "line", 2)
        self.check(((line("b"), line("aa")), (), ()), "line", 1)

    def test_exact(self):
        self.check(((line("a"), BELOW), (), ()), "exact", 1)
        self.check(((line("a", -1), BELOW), (), ()), "exact", 0)

    def test_line_comes_before_exact_of_the_same_and_behind_one_of_an_earlier_line(self):
        self.check(((line("c"), BELOW), (), ()), "line", 1)
        self.check(((BELOW, line("a")), (), ()), "exact", 0)
        self.check(((line("c"), line("b"), line("a", -1)), (), ()), "line", 1)

    def test_section(self):
        for section in ((), ("a",), ("b", "a"), ("a", "a"), ("a", "c", "b"), ("a", "b", "b")):
            self.check((FOUR, (section,), ()), "section", 0)
        self.check((FOUR, (("a", "b"), ("a", "b")), ()), "section", 1)
        self.check((FOUR, (("c", "d"), ("a", "b")), ()), "section", 1)
        self.check((FOUR, (("a", "b"), ("c", "d"), ("c",)), ()), "section", 2)
        self.check((FOUR, (("a", "b", "c"), ("a", "b")), ()), "section", 1)

    def test_unknown(self):
        self.check((FOUR, (("a", "e"),), ()), "unknown", 0)
        self.check((FOUR, (("a", "b"), ("e", "f")), ()), "unknown", 1)
        self.check((FOUR, (("aa", "b"),), ()), "unknown", 0)

    def test_crosses(self):
        self.check((FOUR, (("a", "b"), ("b", "c")), ()), "crosses", 1)
        self.check((FOUR, (("a", "b"), ("a", "c")), ()), "crosses", 1)
        self.check((FOUR, (("a", "b"), ("c", "d"), ("c", "d", "dd")), ()), "unknown", 2)
        self.check((FOUR, (("a", "d"), ("b", "c"), ("b", "d")), ()), "crosses", 2)
        self.check((FOUR, (("a", "b", "c"), ("b", "c", "d")), ()), "crosses", 1)

    def test_the_first_of_two_errors_of_sections(self):
        self.check((FOUR, (("e", "a"),), ()), "section", 0)
        self.check((FOUR, (("a", "b"), ("c", "b")), ()), "section", 1)
        self.check((FOUR, (("a", "b"), ("b", "e")), ()), "unknown", 1)
        self.check((FOUR, (("a", "b"), ("b", "c"), ("b",)), ()), "crosses", 1)
        self.check((FOUR, (("a", "e"), ("a",)), ()), "unknown", 0)

    def test_many(self):
        for charges in ((), (0,), (0, 0, 0), (0, 0, 0, 0, 0)):
            self.check((FOUR, (), (day(*charges),)), "many", 0)
            self.check((FOUR, (), (day(0, 0, 0, 0), day(*charges))), "many", 1)

    def test_charge(self):
        state = (line("a"), line("b", 1, 1, False), line("c"))
        self.check((state, (), (day(-HALF, 0, 0),)), "charge", (0, 0))
        self.check((state, (), (day(0, HALF, 0),)), "charge", (0, 1))
        self.check((state, (), (day(0, -1, 0),)), "charge", (0, 1))
        self.check((state, (), (day(0, 0, 1), day(2, 0, -1))), "charge", (1, 2))
        self.assertEqual(lets_sheet((state, (), (day(5, 0, HALF),))), (3, 1))

    def test_the_first_of_two_errors_of_days(self):
        state = (line("a"), line("b", 1, 1, False))
        self.check((state, (), (day(-1),)), "many", 0)
        self.check((state, (), (day(-1, 1),)), "charge", (0, 0))
        self.check((state, (), (day(1, 1), day(1))), "charge", (0, 1))
        self.check((state, (), (day(1), day(-1, 1))), "many", 0)

    def test_lines_then_sections_then_days(self):
        lines, sections, days = (line("b"), line("a")), (("b", "a"),), (day(0),)
        good = (line("a"), line("b"))
        self.check((lines, sections, days), "line", 1)
        self.check((lines, (), days), "line", 1)
        self.check((good, sections, days), "section", 0)
        self.check((good, (("a", "e"),), days), "unknown", 0)
        self.check((good, (), days), "many", 0)
        self.check(((BELOW,), sections, days[:0]), "exact", 0)

    def test_example(self):
        self.check((STATE, (("fax", "tel"),), (((1, 3), (-1, 2)),)), "charge", (0, 1))


if __name__ == "__main__":
    unittest.main()
