"""[18], [20]: sheets as texts, and back."""

import unittest
from fractions import Fraction

from centbook.sheetreadings import sheet_read
from centbook.sheettexts import sheet_text
from tests.samples import day, fraction_pair, line, random_sheet

STATE = (("fax", (1, 2), 1, True), ("tel", (3, 4), 0, True))
SHEET = (STATE, (("fax", "tel"),), (((1, 3), (1, 2)), ((0, 1), (5, 4))))

# Each kind of row: a sheet, and its written form.
WRITTEN = (
    (SHEET, "line fax 1/2 1\nline tel 3/4 0\nsection fax tel\nday 1/3 1/2\nday 0 5/4"),
    (((line("a"),), (), ()), "line a 0 0"),
    (((line("a", 1, -12, False),), (), ()), "ended a 1 -12"),
    (((line("a", 0, -1), line("b", 1, 1)), (), ()), "line a 0 -1\nline b 1 1"),
    (((line("a"), line("day", Fraction(7, 2), 4, False)), (), (day(Fraction(1, 3), 0),)),
     "line a 0 0\nended day 7/2 4\nday 1/3 0"),
    (((line("ended"), line("line"), line("section")), (("ended", "line", "section"), ("line", "section")), ()),
     "line ended 0 0\nline line 0 0\nline section 0 0\nsection ended line section\nsection line section"),
    (((line("a"),), (), (day(10), day(0), day(Fraction(1000, 9999)))), "line a 0 0\nday 10\nday 0\nday 1000/9999"),
    (((line("a", 10 ** 60 - 1, 1 - 10 ** 60),), (), ((fraction_pair(Fraction(1, 10 ** 59)),),)),
     "line a " + "9" * 60 + " -" + "9" * 60 + "\nday 1/1" + "0" * 59),
)


class SheetTextsTest(unittest.TestCase):
    def test_each_kind_of_row(self):
        for sheet, text in WRITTEN:
            self.assertEqual(sheet_text(sheet), text)
            self.assertEqual(sheet_text(sheet=sheet), text)

    def test_written_forms_are_read(self):
        for sheet, text in WRITTEN:
            self.assertEqual(sheet_read(text), sheet)
            self.assertEqual(repr(sheet_read(text=text)), repr(sheet))

    def test_inverse(self):
        for seed in range(300):
            sheet = random_sheet(seed, most_lines=6, most_days=6)
            text = sheet_text(sheet)
            self.assertEqual(repr(sheet_read(text)), repr(sheet))
            self.assertEqual(sheet_text(sheet_read(text)), text)
            self.assertFalse(text.endswith("\n"))

    def test_numbers_of_any_size(self):
        for digits in (60, 61, 119, 120, 121, 180, 4299, 4300, 9000):
            number = "7" + "0" * (digits - 2) + "3"
            value = 7 * 10 ** (digits - 1) + 3
            sheet = ((("a", (value, 1), -value, True),), (), (((1, value),), ((value, 2),)))
            self.assertEqual(sheet_text(sheet), f"line a {number} -{number}\nday 1/{number}\nday {number}/2")

    def test_many_days(self):
        sheet = ((line("a"),), (), (day(1), day(0)) * 500)
        self.assertEqual(sheet_text(sheet), "line a 0 0" + "\nday 1\nday 0" * 500)
        self.assertEqual(sheet_read(sheet_text(sheet)), sheet)


if __name__ == "__main__":
    unittest.main()
