"""[38], [7] (C2): forced, free and impossible entries."""

import random
import unittest
from fractions import Fraction

from centbook.exchanges import exchanges
from centbook.findings import found_booking
from centbook.forced import forced_entries, is_free
from centbook.sheets import fresh
from tests.samples import all_close, changed, day, line, random_sections, random_sheet

HALF, THIRD = Fraction(1, 2), Fraction(1, 3)
SHEET = ((("a", (0, 1), 0, True), ("b", (0, 1), 0, True)), (), (((1, 2), (1, 2)), ((1, 2), (1, 2))))
MIXED = ((("a", (0, 1), 0, True), ("b", (0, 1), 0, True)), (), (((1, 1), (1, 2)),))
THREE = ((("a", (1, 2), 1, True), ("b", (1, 2), 0, True), ("c", (1, 2), 0, True)), (), (((0, 1), (1, 2), (1, 2)),))


def entries_in(sheet):
    return [(d, i) for d in range(len(sheet[2])) for i in range(len(sheet[0]))]


def expected_forced(sheet, close):
    """The forced entries, by all close bookings."""
    if not close:
        return None
    found = []
    for d, i in entries_in(sheet):
        cents = {booking[d][i] for booking in close}
        if len(cents) == 1:
            found.append((d, i, cents.pop()))
    return tuple(found)


class ForcedTest(unittest.TestCase):
    def test_against_all_close_bookings(self):
        seen = {"none": 0, "forced": 0, "free": 0}
        for seed in range(250):
            sheet = random_sheet(seed, most_lines=4, most_days=3, astray=1 + seed % 2)
            close = all_close(sheet)
            expected = expected_forced(sheet, close)
            self.assertEqual(forced_entries(sheet), expected, repr(sheet))
            for d, i in entries_in(sheet):
                free = len({booking[d][i] for booking in close}) > 1
                self.assertIs(is_free(sheet, d, i), free, repr((sheet, d, i)))
                seen["none" if not close else "free" if free else "forced"] += 1
        self.assertGreater(min(seen.values()), 100)

    def test_fresh_sheets_with_sections(self):
        nested = (("a", "b"), ("a", "b", "c"), ("a", "b", "c", "d"))
        for sections in ((), nested, (("a", "c"), ("b", "d"))):
            for charges in ((HALF,) * 4, (THIRD,) * 4, (1, HALF, HALF, THIRD), (0, 0, THIRD, 2)):
                sheet = (fresh("a", "b", "c", "d"), sections, (day(*charges),) * 3)
                self.assertEqual(forced_entries(sheet), expected_forced(sheet, all_close(sheet)))

    def test_free_if_and_only_if_in_an_exchange(self):
        for seed in range(80):
            sheet = random_sheet(seed, most_lines=4, most_days=3)
            booking = found_booking(sheet)
            if booking is not None:
                inside = {row[:2] for exchange in exchanges(sheet, booking) for row in exchange}
                self.assertEqual([entry for entry in entries_in(sheet) if is_free(sheet, *entry)], sorted(inside))

    def test_forced_although_the_charge_is_no_whole_number(self):
        sheet = ((line("a", HALF, 1),), (), (day(HALF),))
        self.assertEqual(forced_entries(sheet), ((0, 0, 0),))
        sheet = ((line("a", HALF, 0),), (), (day(HALF), day(1)))
        self.assertEqual(forced_entries(sheet), ((0, 0, 1), (1, 0, 1)))
        sheet = (SHEET[0], (), (day(0, THIRD), day(HALF, 2 * THIRD)))
        self.assertEqual(forced_entries(sheet), expected_forced(sheet, all_close(sheet)))

    def test_whole_charges_are_forced(self):
        for seed in range(80):
            sheet = random_sheet(seed, unders=(1, 1, 2))
            forced = forced_entries(sheet)
            if forced is not None:
                whole = {(d, i) for d, i in entries_in(sheet) if sheet[2][d][i][1] == 1}
                self.assertLessEqual(whole, {row[:2] for row in forced})

    def test_without_a_close_booking(self):
        self.assertIsNone(forced_entries(THREE))
        self.assertEqual([is_free(THREE, 0, i) for i in range(3)], [False] * 3)

    def test_without_days(self):
        for state in (SHEET[0], (line("a", 5, -7),)):
            self.assertEqual(forced_entries((state, (), ())), ())

    def test_six_lines_and_ten_days(self):
        """Each free entry is turned by an exchange of days and lines; the others are forced."""
        rng = random.Random(8)
        for _ in range(6):
            days = tuple(day(*[Fraction(rng.randint(0, 12), rng.choice((2, 3, 4, 6))) for _ in "abcdef"]) for _ in range(10))
            sheet = (fresh(*"abcdef"), random_sections(rng, list("abcdef")), days)
            forced = {row[:2]: row[2] for row in forced_entries(sheet)}
            booking = found_booking(sheet)
            for d, i in entries_in(sheet):
                self.assertIs(is_free(sheet, d, i), (d, i) not in forced)
                if (d, i) in forced:
                    self.assertEqual(forced[d, i], booking[d][i])

    def test_whole_cents_added(self):
        for seed in range(40):
            state, sections, days = random_sheet(seed)
            goes_on = [i for i, one in enumerate(state) if one[3]]
            if not days or not goes_on or forced_entries((state, sections, days)) is None:
                continue
            i = goes_on[0]
            charge = (days[0][i][0] + 2 * days[0][i][1], days[0][i][1])
            more = (state, sections, changed(days, 0, changed(days[0], i, charge)))
            expected = tuple((d, j, cents + 2 * ((d, j) == (0, i))) for d, j, cents in forced_entries((state, sections, days)))
            self.assertEqual(forced_entries(more), expected)

    def test_names_of_arguments_and_what_is_kept(self):
        shown = repr(MIXED)
        self.assertEqual(forced_entries(sheet=MIXED), ((0, 0, 1),))
        self.assertIs(is_free(i=1, d=0, sheet=MIXED), True)
        self.assertIs(is_free(i=0, sheet=MIXED, d=0), False)
        self.assertTrue(type(forced_entries(MIXED)) is tuple and type(forced_entries(MIXED)[0]) is tuple)
        self.assertEqual(repr(MIXED), shown)

    def test_examples(self):
        self.assertEqual([forced_entries(MIXED), forced_entries(SHEET), is_free(SHEET, 1, 1)], [((0, 0, 1),), (), True])


if __name__ == "__main__":
    unittest.main()
