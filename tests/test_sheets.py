"""[4], [15]: fresh states, states after bookings, parts of sheets."""

import itertools
import unittest
from fractions import Fraction

from centbook.kinds import is_sheet, is_state
from centbook.sheets import fresh, part, state_after
from tests.samples import all_close, bookings_to_try, day, fraction_pair, line, random_sheet, value_of

HALF = Fraction(1, 2)
STATE = (("fax", (1, 2), 1, True), ("tel", (3, 4), 0, True))
SHEET = (STATE, (("fax", "tel"),), (((1, 3), (1, 2)), ((0, 1), (5, 4))))


class SheetsTest(unittest.TestCase):
    def test_fresh(self):
        names = ("tel", "a", "line", "fax")
        expected = tuple((name, (0, 1), 0, True) for name in sorted(names))
        for some in itertools.permutations(names):
            self.assertEqual(fresh(*some), expected)
        self.assertEqual(fresh("z"), (("z", (0, 1), 0, True),))
        self.assertTrue(is_state(fresh(*names)))
        self.assertIs(fresh("a")[0][3], True)

    def test_state_after(self):
        for seed in range(120):
            sheet = random_sheet(seed, astray=3)
            state, _, days = sheet
            for booking in list(bookings_to_try(sheet))[:8]:
                after = state_after(sheet, booking)
                expected = tuple(
                    (name, fraction_pair(value_of(exact) + sum(value_of(one[i]) for one in days)),
                     cents + sum(row[i] for row in booking), goes_on)
                    for i, (name, exact, cents, goes_on) in enumerate(state)
                )
                self.assertEqual(repr(after), repr(expected))
                self.assertTrue(is_state(after))

    def test_state_after_bookings_that_are_not_close(self):
        state = (line("a", HALF, -5), line("b", 7, 9, False))
        sheet = (state, (), (day(HALF, 0), day(Fraction(1, 3), 0)))
        self.assertEqual(state_after(sheet, ((100, 0), (0, 20))), (line("a", Fraction(4, 3), 95), line("b", 7, 29, False)))
        self.assertEqual(state_after(booking=((0, 0), (0, 0)), sheet=sheet)[0], line("a", Fraction(4, 3), -5))

    def test_state_after_no_day(self):
        sheet = (STATE, (("fax", "tel"),), ())
        self.assertEqual(state_after(sheet, ()), STATE)

    def test_parts(self):
        days = tuple(day(k, k + 1) for k in range(5))
        sheet = (STATE, (("fax", "tel"),), days)
        for first in range(6):
            for count in range(6 - first):
                found = part(sheet, first, count)
                self.assertEqual(found, (STATE, (("fax", "tel"),), days[first:first + count]))
                self.assertTrue(is_sheet(found))
        self.assertEqual(part(sheet, 0, 5), sheet)
        self.assertEqual(part(count=0, first=5, sheet=sheet)[2], ())
        self.assertEqual(part(part(sheet, 1, 3), 1, 2), part(sheet, 2, 2))
        self.assertEqual(sheet, (STATE, (("fax", "tel"),), days))

    def test_state_after_parts(self):
        """One part after the other leads to the same state as the whole."""
        for seed in range(60):
            sheet = random_sheet(seed, most_days=4)
            many = len(sheet[2])
            for booking in all_close(sheet)[:3]:
                for cut in range(many + 1):
                    middle = state_after(part(sheet, 0, cut), booking[:cut])
                    rest = (middle, sheet[1], part(sheet, cut, many - cut)[2])
                    self.assertEqual(state_after(rest, booking[cut:]), state_after(sheet, booking))

    def test_examples(self):
        self.assertEqual(fresh("tel", "fax"), (("fax", (0, 1), 0, True), ("tel", (0, 1), 0, True)))
        self.assertEqual(state_after(SHEET, ((0, 1), (0, 1))), (("fax", (5, 6), 1, True), ("tel", (5, 2), 2, True)))
        self.assertEqual(part(SHEET, 1, 1)[2], (((0, 1), (5, 4)),))


if __name__ == "__main__":
    unittest.main()
