"""[18], [19], [20]: texts that are read, and texts that are not."""

import unittest

from centbook.errors import InvalidText
from centbook.sheetreadings import fraction_read, sheet_read
from tests.samples import line

NINES = "9" * 60
TOO_LONG = "1" + "0" * 60

NO_INTEGERS = (
    "", "-", "--1", "-0", "00", "01", "-01", "+1", "1-", "1.0", "1,0", "a", "0x1", "1_0", "1e3", "None", "True",
    TOO_LONG, "-" + TOO_LONG, "0" * 61, "1a", "(1)",
)
NO_FRACTIONS = (
    "/", "1/", "/2", "1/1", "0/1", "-1/1", "2/4", "0/2", "1/0", "1/-2", "-2/4", "1//2", "1/2/3", "1/02", "01/2",
    "+1/2", "-/2", "-0/2", "1/+2", "1/" + TOO_LONG, TOO_LONG + "/7", "1/2.", "1\\2", "1:2", "3/3", "-1/-2",
)


class FractionReadTest(unittest.TestCase):
    def test_fractions(self):
        for text, fraction in (
            ("0", (0, 1)), ("7", (7, 1)), ("-7", (-7, 1)), ("10", (10, 1)), ("1/2", (1, 2)), ("-1/2", (-1, 2)),
            ("5/4", (5, 4)), ("10/9", (10, 9)), (NINES, (10 ** 60 - 1, 1)), ("-" + NINES, (1 - 10 ** 60, 1)),
            ("1/" + NINES, (1, 10 ** 60 - 1)), ("-" + NINES + "/1" + "0" * 59, (1 - 10 ** 60, 10 ** 59)),
        ):
            self.assertEqual(fraction_read(text), fraction)
            self.assertEqual(fraction_read(text=text), fraction)

    def test_refused(self):
        around = (" ", "  ", "\n", "1 ", " 1", "1\n", "\n1", "1 2", "1/2 1/3", "1 /2", "1/ 2", "1/2\n", "- 1", "x" * 4000)
        for text in NO_INTEGERS + NO_FRACTIONS + around:
            with self.assertRaises(InvalidText, msg=text) as caught:
                fraction_read(text)
            self.assertEqual((caught.exception.row, caught.exception.field), (0, 0))


class SheetReadTest(unittest.TestCase):
    def check(self, text, row, field):
        with self.assertRaises(InvalidText, msg=repr(text)) as caught:
            sheet_read(text)
        self.assertEqual((caught.exception.row, caught.exception.field), (row, field), repr(text))

    def test_word_0_of_row_0(self):
        texts = (
            "", "-", " ", "\n", "\nline a 0 0", " line a 0 0", "Line a 0 0", "lines a 0 0", "a", "day 0", "day", "section a b",
            "section", "line\ta 0 0", "0", "endeda 0 0", "linea 0 0", "  ",
        )
        for text in texts:
            self.check(text, 0, 0)

    def test_word_0_of_later_rows(self):
        for row in ("", " ", "-", "sections a b", "x", "Day 0", " day 0 0", "0 0", "total 0"):
            self.check("line a 0 0\nline b 0 0\n" + row, 2, 0)
            self.check("line a 0 0\nline b 0 0\nday 0 0\n" + row, 3, 0)
            self.check("line a 0 0\nline b 0 0\n" + row + "\nday 0 0", 2, 0)

    def test_a_newline_at_the_end(self):
        self.check("line a 0 0\n", 1, 0)
        self.check("line a 0 0\nday 0\n", 2, 0)
        self.check("line a 0 0\n\n", 1, 0)
        self.check("line a 0 0\n\nday 0", 1, 0)

    def test_order_of_rows(self):
        lines = "line a 0 0\nline b 0 0\n"
        for kind in ("line", "ended"):
            self.check(f"{lines}section a b\n{kind} c 0 0", 3, 0)
            self.check(f"{lines}day 0 0\n{kind} c 0 0", 3, 0)
            self.check(f"{lines}day 0 0\n{kind}", 3, 0)
        self.check(f"{lines}day 0 0\nsection a b", 3, 0)
        self.check(f"{lines}day 0 0\nsection", 3, 0)

    def test_names(self):
        for kind in ("line", "ended"):
            for name in ("", "A", "abcdefghi", "a1", "-", "1", "a.b", "aB"):
                self.check(f"{kind} {name} 0 0", 0, 1)
                self.check(f"line a 0 0\n{kind} {name} 0 0", 1, 1)
            for name in ("a", "b", "aa", "bb"):
                self.check(f"line bb 0 0\n{kind} {name} 0 0", 1, 1)
            self.check(f"{kind} ", 0, 1)
            self.check(f"{kind}  a 0 0", 0, 1)
            self.check(f"line a 0 0\nline c 0 0\n{kind} b 0 0", 2, 1)

    def test_exact_and_cents(self):
        for kind in ("line", "ended"):
            for word in NO_INTEGERS + NO_FRACTIONS + ("-1", "-1/2", "-" + NINES):
                self.check(f"{kind} a {word} 0", 0, 2)
            for word in NO_INTEGERS + NO_FRACTIONS + ("1/2", "-1/2"):
                self.check(f"{kind} a 0 {word}", 0, 3)
            self.check(f"{kind} a {TOO_LONG} {TOO_LONG}", 0, 2)

    def test_missing_and_additional_words_of_a_line(self):
        for kind in ("line", "ended"):
            self.check(kind, 0, 1)
            self.check(f"{kind} a", 0, 2)
            self.check(f"{kind} a 0", 0, 3)
            self.check(f"{kind} a 0 0 0", 0, 4)
            self.check(f"{kind} a 0 0 ", 0, 4)
            self.check(f"{kind} a 0 0 x y", 0, 4)
            self.check(f"{kind} a  0 0", 0, 2)
            self.check(f"{kind} a 0  0", 0, 3)
            self.check(f"{kind} A x y z", 0, 1)
            self.check(f"{kind} a x y z", 0, 2)
            self.check(f"{kind} a 0 y z", 0, 3)

    def test_names_of_a_section(self):
        lines = "line a 0 0\nended b 1 1\nline c 0 0\n"
        for row, field in (
            ("section", 1), ("section a", 2), ("section ", 1), ("section a ", 2), ("section  a b", 1), ("section d", 1),
            ("section a d", 2), ("section d a", 1), ("section b a", 2), ("section a a", 2), ("section a b b", 3),
            ("section a b a", 3), ("section a c b", 3), ("section a b ", 3), ("section a b d", 3), ("section A b", 1),
            ("section a b c c", 4), ("section a,b", 1), ("section - a", 1), ("section b", 2), ("section section", 1),
        ):
            self.check(lines + row, 3, field)
            self.check(lines + row + "\nday x", 3, field)

    def test_sections_that_do_not_fit(self):
        lines = "".join(f"line {name} 0 0\n" for name in "abcd")
        for sections, field in (
            (("a b", "a b"), 3), (("a c", "a b"), 3), (("c d", "a b"), 3), (("a b c", "a b"), 3), (("a b", "b c"), 3),
            (("a b", "a c"), 3), (("a b c", "b c d"), 4), (("a b", "a c d"), 4), (("a d", "b c d"), 4),
        ):
            self.check(lines + "".join(f"section {section}\n" for section in sections)[:-1], 5, field)
        self.check(lines + "section a b\nsection c d\nsection b c", 6, 3)
        self.check(lines + "section a b\nsection c d\nsection a b c", 6, 4)
        self.check(lines + "section a b\nsection c d\nsection a b c d", 6, 5)
        self.check(lines + "section a b\nsection a b\nsection c", 5, 3)

    def test_sections_that_fit(self):
        names = ("a", "b", "c", "d")
        lines = "".join(f"line {name} 0 0\n" for name in names)
        for sections in (("a b", "c d"), ("a b", "a b c", "a b c d"), ("a b c d", "a c", "b d"), ("a d", "b c")):
            text = lines + "".join(f"section {section}\n" for section in sections)[:-1]
            expected = tuple(tuple(section.split()) for section in sections)
            self.assertEqual(sheet_read(text), (tuple(line(name) for name in names), expected, ()))

    def test_days(self):
        lines = "line a 0 0\nended b 1 1\n"
        for word in NO_INTEGERS + NO_FRACTIONS + ("-1", "-1/2"):
            self.check(f"{lines}day {word} 0", 2, 1)
            self.check(f"{lines}day 1 {word}", 2, 2)
        for row, field in (
            ("day", 1), ("day 1", 2), ("day 1 1", 2), ("day 0 1/2", 2), ("day 0 0 0", 3), ("day 0 0 ", 3),
            ("day 0 0 x y", 3), ("day ", 1), ("day x", 1), ("day 0 1 1", 2), ("day  0 0", 1), ("day 0  0", 2), ("day -", 1),
        ):
            self.check(lines + row, 2, field)
            self.check(lines + "day 5/3 0\n" + row + "\n", 3, field)

    def test_the_first_row_counts(self):
        self.check("line a 0 0\nline a 0 0\nday x", 1, 1)
        self.check("line a 0\n", 0, 3)
        self.check("line b 0 x\nline a 0 0", 0, 3)
        self.check("line a 0 0\nday 0\nday 0 0\nx", 2, 2)

    def test_words_of_rows_as_names(self):
        text = "line day 0 0\nline ended 0 0\nline line 0 0\nline section 0 0\nsection day ended\nday 0 0 0 1/2"
        state, sections, days = sheet_read(text)
        self.assertEqual([one[0] for one in state], ["day", "ended", "line", "section"])
        self.assertEqual((sections, days), ((("day", "ended"),), (((0, 1), (0, 1), (0, 1), (1, 2)),)))

    def test_long_texts(self):
        for text in ("line a 0 0\n" + "day 0\n" * 600, "line " * 800, "\n" * 4000, "-" * 4000):
            with self.assertRaises(InvalidText):
                sheet_read(text)

    def test_examples(self):
        expected = ((("a", (0, 1), 0, True), ("day", (7, 2), 4, False)), (), (((1, 3), (0, 1)),))
        self.assertEqual(sheet_read("line a 0 0\nended day 7/2 4\nday 1/3 0"), expected)
        self.check("line a 0 0\nday 1/3 2", 1, 2)
        self.check("line a 0\n", 0, 3)


if __name__ == "__main__":
    unittest.main()
