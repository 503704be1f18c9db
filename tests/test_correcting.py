"""[51], [52], [57], [7] (C6, C9): the fewest corrected cents."""

import random
import unittest
from fractions import Fraction
from itertools import product

from centbook.bookingchecker import lets_booking
from centbook.correcting import corrected, corrections
from centbook.findings import found_booking
from centbook.sheets import fresh
from tests.samples import (
    all_close, changes_of_size, close_state, day, is_plain_open, line, random_sections, random_sheet, shifted, value_of,
)

HALF, THIRD = Fraction(1, 2), Fraction(1, 3)
THREE = (line("a", HALF, 1), line("b", HALF, 1), line("c", HALF, 0))
TWO = (("a", (1, 2), 1, True), ("b", (1, 2), 1, True))
NAMES = ("a", "b", "c", "d", "e", "f")


def size_of(changes):
    return sum(abs(change) for change in changes)


def any_state(rng, most=4, astray=3):
    """Any state, close or not; its cents are some cents off."""
    state = []
    for name in NAMES[:rng.randint(1, most)]:
        exact = Fraction(rng.randint(0, 12), rng.choice((1, 2, 2, 3, 4)))
        state.append(line(name, exact, int(exact) + rng.randint(-astray, astray), rng.random() < 0.75))
    return tuple(state)


def least_to_open(state):
    """The least size of corrections after which the state is open, found by trying, or None."""
    floors = [int(value_of(one[1])) for one in state]
    sizes = []
    for more in product((-1, 0, 1, 2), repeat=len(state)):
        changes = [low + by - one[2] for one, low, by in zip(state, floors, more)]
        if is_plain_open(shifted(state, changes)):
            sizes.append(size_of(changes))
    return min(sizes, default=None)


def least_to_fit(sheet, fits):
    """The least size of corrections that fit the sheet, found by trying all smaller ones."""
    state, sections, days = sheet
    size = 0
    while not any(fits((shifted(state, changes), sections, days)) for changes in changes_of_size(len(state), size)):
        size += 1
    return size


class CorrectedTest(unittest.TestCase):
    def check(self, state):
        found = corrected(state)
        least = least_to_open(state)
        if least is None:
            self.assertIsNone(found, repr(state))
            return found
        self.assertTrue(type(found) is tuple and len(found) == len(state) and all(type(one) is int for one in found))
        self.assertTrue(is_plain_open(shifted(state, found)), repr((state, found)))
        self.assertEqual(size_of(found), least, repr((state, found)))
        return found

    def test_by_trying(self):
        rng = random.Random(1)
        none = 0
        for _ in range(300):
            none += self.check(any_state(rng)) is None
        self.assertGreater(none, 1)

    def test_close_states(self):
        rng = random.Random(2)
        seen = {True: 0, False: 0}
        for k in range(200):
            state = close_state(rng, NAMES[:1 + k % 5], ends=(0, 0.4)[k % 2])
            found = self.check(state)
            if is_plain_open(state):
                self.assertEqual(found, (0,) * len(state))
            elif found is not None:
                self.assertGreater(size_of(found), 0)
            seen[is_plain_open(state)] += 1
        self.assertGreater(min(seen.values()), 20)

    def test_there_are_none(self):
        """(C6): three lines with a half each; also with whole lines beside them."""
        for more in product((0, 1, 5), repeat=3):
            state = tuple(line(name, HALF + by, by) for name, by in zip("abc", more))
            self.assertIsNone(corrected(state))
            self.assertIsNone(corrected(state + (line("d", 4, 4), line("e", 1, 9, False))))
        self.assertIsNone(corrected(tuple(line(name, HALF, 0) for name in "abcde")))
        self.assertIsNone(corrected((line("a", HALF), line("b", HALF), line("c", HALF), line("d", HALF, 0, False))))
        self.assertIsNotNone(corrected((line("a", HALF), line("b", HALF), line("c", THIRD))))

    def test_one_or_two_lines(self):
        rng = random.Random(3)
        for _ in range(80):
            state = tuple((name, exact, cents, True) for name, exact, cents, _ in any_state(rng, most=2))
            found = corrected(state)
            self.assertIsNotNone(found)
            sizes = [abs(one[2] - near) for one in state[:1] for near in (value_of(one[1]).__floor__(), value_of(one[1]).__ceil__())]
            if len(state) == 1:
                self.assertEqual(size_of(found), min(sizes))

    def test_lines_that_have_ended_are_corrected_too(self):
        self.assertEqual(corrected((line("a", 4, 7, False), line("b", 2, 2))), (-3, 0))
        self.assertEqual(corrected((line("a", 4, 1, False),)), (3,))
        self.assertIn(corrected((line("a", HALF, 1, False), line("b", HALF, 1))), ((-1, 0), (0, -1)))

    def test_the_lines_ahead(self):
        """[51]: ahead can be the lines with the greatest fractional parts."""
        state = (line("a", Fraction(3, 4), 0), line("b", Fraction(1, 4), 1), line("c", Fraction(1, 2), 0), line("d", HALF, 1))
        self.assertEqual(size_of(corrected(state)), 2)
        self.assertTrue(is_plain_open(shifted(state, corrected(state))))
        self.assertTrue(is_plain_open(shifted(state, (1, -1, 0, 0))))

    def test_large_cents(self):
        state = (line("a", 10 ** 6, 10 ** 6 - 500), line("b", Fraction(9999, 10000), 77, False), line("c", HALF, -10 ** 6))
        found = corrected(state)
        self.assertTrue(is_plain_open(shifted(state, found)))
        self.assertIn(size_of(found), range(500 + 76 + 10 ** 6, 500 + 77 + 10 ** 6 + 2))

    def test_names_of_arguments_and_examples(self):
        self.assertIsNone(corrected(state=THREE))
        self.assertTrue(corrected(THREE) is None)
        self.assertEqual(repr(THREE), repr((line("a", HALF, 1), line("b", HALF, 1), line("c", HALF, 0))))


class CorrectionsTest(unittest.TestCase):
    def check_kind(self, sheet, found):
        self.assertTrue(type(found) is tuple and len(found) == len(sheet[0]) and all(type(one) is int for one in found))

    def test_small_sheets_by_trying(self):
        """All bookings are tried for all corrections of each smaller size."""
        seen = {}
        for seed in range(260):
            sheet = random_sheet(seed, most_lines=3, most_days=2, astray=1 + seed % 3)
            if not sheet[2]:
                continue
            found = corrections(sheet)
            self.check_kind(sheet, found)
            corrected_sheet = (shifted(sheet[0], found), sheet[1], sheet[2])
            self.assertTrue(all_close(corrected_sheet), repr((sheet, found)))
            self.assertEqual(size_of(found), least_to_fit(sheet, all_close), repr((sheet, found)))
            seen[size_of(found)] = seen.get(size_of(found), 0) + 1
        self.assertLessEqual({0, 1, 2, 3, 4}, set(seen))

    def test_sheets_with_sections_by_trying(self):
        rng = random.Random(4)
        nested = 0
        for seed in range(60):
            sheet = random_sheet(seed + 1000, most_lines=5, most_days=4, astray=1 + seed % 2)
            if not sheet[2]:
                continue
            sections = random_sections(rng, [one[0] for one in sheet[0]])
            sheet = (sheet[0], sections, sheet[2])
            found = corrections(sheet)
            self.assertEqual(size_of(found), least_to_fit(sheet, found_booking), repr((sheet, found)))
            self.assertIsNotNone(found_booking((shifted(sheet[0], found), sections, sheet[2])))
            nested += len(sections) > 1
        self.assertGreater(nested, 5)

    def test_size_zero(self):
        """[57]: exactly for the sheets that have a close booking."""
        seen = {True: 0, False: 0}
        for seed in range(250):
            sheet = random_sheet(seed + 300, most_lines=5, most_days=4, astray=1 + seed % 2)
            fits = found_booking(sheet) is not None
            self.assertIs(size_of(corrections(sheet)) == 0, fits)
            seen[fits] += 1
        self.assertGreater(min(seen.values()), 20)

    def test_without_days(self):
        """() is the booking, whatever the cents are."""
        for state in (TWO, THREE, (line("a", 3, -70, False),)):
            self.assertEqual(corrections((state, (), ())), (0,) * len(state))
        self.assertEqual(corrections((THREE, (("a", "b"),), ())), (0, 0, 0))

    def test_fresh_states_need_none(self):
        rng = random.Random(5)
        for k in range(60):
            names = NAMES[:1 + k % 6]
            days = tuple(day(*[Fraction(rng.randint(0, 9), rng.choice((2, 3, 4))) for _ in names]) for _ in range(rng.randint(1, 5)))
            self.assertEqual(corrections((fresh(*names), random_sections(rng, list(names)), days)), (0,) * len(names))

    def test_single_sheets(self):
        self.assertEqual(corrections(((line("a", 2, 9),), (), (day(0),))), (-7,))
        self.assertEqual(corrections(((line("a", 2, -9),), (), (day(0),))), (11,))
        self.assertEqual(corrections(((line("a", HALF, 5),), (), (day(0),))), (-4,))
        self.assertEqual(corrections(((line("a", HALF, 2),), (), (day(HALF),))), (-1,))
        self.assertEqual(corrections(((line("a", 7, 5, False), line("b", 1, 1)), (), (day(0, HALF),))), (2, 0))

    def test_cents_further_away_than_a_rounded_exact(self):
        """A line may be a cent below its exact sum rounded down, and two above, if a charge makes up for it."""
        quarter = Fraction(1, 4)
        self.assertEqual(corrections(((line("a", 3 * quarter, 2), line("b")), (), (day(HALF, 0),))), (0, 0))
        self.assertEqual(corrections(((line("a", 3 * quarter, 3), line("b")), (), (day(HALF, 0),))), (-1, 0))
        self.assertEqual(corrections(((line("a", quarter, -1),), (), (day(HALF),))), (0,))
        self.assertEqual(corrections(((line("a", quarter, -2),), (), (day(HALF),))), (1,))

    def test_six_lines_ten_days_three_sections(self):
        rng = random.Random(6)
        for k in range(12):
            state = tuple(line(name, Fraction(rng.randint(0, 10 ** 6), rng.choice((1, 7, 9999))), 0, True) for name in NAMES)
            state = shifted(state, [int(value_of(one[1])) + rng.randint(-3, 4) * 10 ** (k % 4) for one in state])
            days = tuple(day(*[Fraction(rng.randint(0, 5000), rng.choice((7, 12, 9973))) for _ in NAMES]) for _ in range(10))
            sheet = (state, (("a", "b"), ("a", "b", "c"), ("e", "f")), days)
            found = corrections(sheet)
            self.check_kind(sheet, found)
            fitting = (shifted(state, found), sheet[1], days)
            self.assertGreater(lets_booking(fitting, found_booking(fitting)), 0)

    def test_names_of_arguments_and_what_is_kept(self):
        sheet = (TWO, (("a", "b"),), (day(HALF, HALF),))
        shown = repr(sheet)
        self.assertEqual(size_of(corrections(sheet=sheet)), 1)
        self.assertEqual(repr(sheet), shown)

    def test_examples(self):
        self.assertEqual(sum(abs(change) for change in corrections((TWO, (), (((1, 2), (1, 2)),)))), 1)


if __name__ == "__main__":
    unittest.main()
