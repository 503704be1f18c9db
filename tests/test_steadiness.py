"""[54], [57], [7] (C7, C8): steady bookings."""

import itertools
import random
import unittest
from fractions import Fraction

from centbook.findings import found_booking
from centbook.sheets import fresh
from centbook.states import open_states
from centbook.steadiness import steady
from tests.samples import (
    all_close, booking_error, day, is_plain_close, is_plain_open, is_plain_steady, line, plain_states_behind, random_sections, random_sheet,
    value_of,
)

HALF, THIRD = Fraction(1, 2), Fraction(1, 3)
ZERO = (0, 1)
ONCE = (tuple((name, ZERO, 0, True) for name in ("a", "b", "c")), (), (((1, 2), (1, 2), (1, 2)),))


def open_ends(sheet):
    """For each day the cents of all open states that are reached behind it through open states, day by day."""
    state, sections, days = sheet
    reached, found = [tuple(one[2] for one in state)], []
    for d in range(len(days)):
        first_days = (state, sections, days[:d + 1])
        floors = [int(value_of(charge)) for charge in days[d]]
        rows = list(itertools.product(*[(low, low + 1) for low in floors]))
        after = set()
        for cents in reached:
            for row in rows:
                # As if nothing had been booked before: only the sums of day d are looked at.
                before = tuple((one[0], one[1], many, one[3]) for one, many in zip(state, cents))
                booking = ((0,) * len(state),) * d + (row,)
                if day_is_kept((before,) + first_days[1:], booking) and is_plain_open(plain_states_behind((before,) + first_days[1:], booking)[d]):
                    after.add(tuple(one + more for one, more in zip(cents, row)))
        reached = sorted(after)
        found.append(reached)
    return found


def day_is_kept(sheet, booking):
    """Whether a booking keeps the bounds of the sums of the last day, also the accounts and lines up to it."""
    d = len(booking) - 1
    state, sections, days = sheet
    last = plain_states_behind(sheet, booking)[d]
    alone = (tuple((one[0], ZERO, 0, True) for one in state), sections, days[d:])
    error = booking_error(alone, booking[d:])
    return is_plain_close(last) and not isinstance(error, tuple)


class SteadyTest(unittest.TestCase):
    def check(self, sheet):
        found = steady(sheet)
        expected = [booking for booking in all_close(sheet) if is_plain_steady(sheet, booking)]
        if found is None:
            self.assertEqual(expected, [], repr(sheet))
        else:
            self.assertTrue(type(found) is tuple and all(type(row) is tuple for row in found))
            self.assertIn(found, expected, repr(sheet))
        return found

    def test_by_trying(self):
        """All close bookings are tried."""
        seen = {}
        for seed in range(400):
            sheet = random_sheet(seed, most_lines=4, most_days=3, astray=1 + seed % 2, unders=(2, 2, 3, 4))
            if len(sheet[0]) * len(sheet[2]) <= 9:
                found = self.check(sheet)
                seen[len(sheet[2]), found is None] = seen.get((len(sheet[2]), found is None), 0) + 1
        self.assertEqual(sorted(seen), [(0, False), (1, False), (1, True), (2, False), (2, True), (3, False), (3, True)])
        self.assertGreater(min(seen.values()), 5)

    def test_day_by_day(self):
        """All open states are gone through day by day."""
        seen = {True: 0, False: 0}
        rng = random.Random(1)
        for _ in range(70):
            names = "abcd"[:rng.randint(3, 4)]
            days = tuple(day(*[Fraction(rng.randint(0, 4), rng.choice((2, 2, 4))) for _ in names]) for _ in range(rng.randint(1, 4)))
            sheet = (fresh(*names), random_sections(rng, list(names)), days)
            found = steady(sheet)
            self.assertIs(found is None, open_ends(sheet)[-1] == [], repr(sheet))
            if found is not None:
                self.assertIsInstance(booking_error(sheet, found), int)
                self.assertTrue(is_plain_steady(sheet, found))
            seen[found is None] += 1
        self.assertGreater(min(seen.values()), 15)

    def test_sheets_that_have_close_bookings_only(self):
        """There is a close booking, but none that is steady."""
        seen = 0
        for seed in range(400):
            sheet = random_sheet(seed + 900, most_lines=4, most_days=2, unders=(2, 2, 2, 3))
            if found_booking(sheet) is not None and steady(sheet) is None:
                seen += 1
                self.check(sheet)
        self.assertGreater(seen, 10)

    def test_a_last_day_that_is_not_open(self):
        """Two days that go on, and one behind which each line is half a cent off."""
        half = day(HALF, HALF, HALF)
        self.assertIsNotNone(self.check((ONCE[0], (), (day(HALF, HALF, 0),))))
        self.assertIsNone(self.check((ONCE[0], (), (day(HALF, HALF, 0), day(0, 0, HALF)))))
        self.assertIsNone(self.check((ONCE[0], (), (half, half))))
        self.assertIsNotNone(self.check((ONCE[0], (), (day(1, HALF, HALF), day(HALF, HALF, HALF + HALF)))))

    def test_without_days(self):
        for state in (ONCE[0], (line("a", HALF, 7),), tuple(line(name, HALF, 0) for name in "abc")):
            self.assertEqual(steady((state, (), ())), ())

    def test_the_given_state(self):
        """It need not be open, and not even close."""
        behind = tuple(line(name, HALF, cents) for name, cents in zip("abc", (1, 1, 0)))
        self.assertFalse(is_plain_open(behind))
        self.assertEqual(self.check((behind, (), (day(0, 0, HALF),))), None)
        self.assertEqual(self.check((behind, (), (day(HALF, HALF, HALF),))), ((0, 0, 1),))
        astray = (line("a", Fraction(3, 4), 2), line("b", 0, 0))
        self.assertFalse(is_plain_close(astray))
        self.assertEqual(self.check((astray, (), (day(HALF, 0),))), ((0, 0),))
        self.assertIsNone(steady(((line("a", 1, 5),), (), (day(1), day(1)))))

    def test_groups_of_lines(self):
        """(C8): up to each day less than one cent from the exact sum."""
        seen = 0
        for seed in range(150):
            sheet = random_sheet(seed + 2000, most_lines=4, most_days=4, astray=1)
            booking = steady(sheet)
            if booking is None:
                continue
            for state in plain_states_behind(sheet, booking):
                going = [cents - value_of(exact) for _, exact, cents, goes_on in state if goes_on]
                for many in range(1, len(going) + 1):
                    for group in itertools.combinations(going, many):
                        self.assertLess(abs(sum(group)), 1)
                        seen += 1
        self.assertGreater(seen, 500)

    def test_any_further_day(self):
        """[57]: after a steady booking there is a close booking with any further day."""
        rng = random.Random(3)
        seen = 0
        for seed in range(250):
            sheet = random_sheet(seed + 3000, most_lines=4, most_days=3, astray=1)
            state, sections, days = sheet
            if days and steady(sheet) is not None:
                for _ in range(4):
                    more = day(*[Fraction(rng.randint(0, 9), rng.choice((2, 3, 4, 7))) if one[3] else 0 for one in state])
                    self.assertIsNotNone(found_booking((state, sections, days + (more,))))
                    seen += 1
        self.assertGreater(seen, 200)

    def test_open_ends_of_fresh_states(self):
        """(C7): a fresh sheet of one day has a steady booking if and only if there is an open state."""
        rng = random.Random(4)
        seen = {True: 0, False: 0}
        for _ in range(200):
            names = "abcd"[:rng.randint(2, 4)]
            sheet = (fresh(*names), random_sections(rng, list(names)), (day(*[Fraction(rng.randint(0, 6), rng.choice((2, 2, 2, 3))) for _ in names]),))
            behind = tuple((one[0], charge, 0, True) for one, charge in zip(sheet[0], sheet[2][0]))
            self.assertIs(steady(sheet) is None, list(open_states(behind)) == [], repr(sheet))
            seen[steady(sheet) is None] += 1
        self.assertGreater(min(seen.values()), 5)

    def test_names_of_arguments_and_what_is_kept(self):
        shown = repr(ONCE)
        self.assertIsNone(steady(sheet=ONCE))
        self.assertEqual(repr(ONCE), shown)

    def test_examples(self):
        self.assertIsNone(steady(ONCE))


if __name__ == "__main__":
    unittest.main()
