"""[35], [37]: all close bookings, their ends, and bookings to an end."""

import itertools
import random
import types
import unittest
from fractions import Fraction

from centbook.bookingchecker import lets_booking
from centbook.bookings import all_ends, booking_to, bookings_of
from centbook.sheets import fresh, state_after
from tests.samples import all_close, changed, day, line, random_sections, random_sheet

HALF, THIRD = Fraction(1, 2), Fraction(1, 3)
SHEET = ((("a", (0, 1), 0, True), ("b", (0, 1), 0, True)), (), (((1, 2), (1, 2)), ((1, 2), (1, 2))))
MIXED = ((("a", (0, 1), 0, True), ("b", (0, 1), 0, True)), (), (((1, 1), (1, 2)),))
THREE = ((("a", (1, 2), 1, True), ("b", (1, 2), 0, True), ("c", (1, 2), 0, True)), (), (((0, 1), (1, 2), (1, 2)),))


def end_of(sheet, booking):
    return tuple(one[2] for one in state_after(sheet, booking))


def many_sheets():
    for seed in range(150):
        yield random_sheet(seed, most_lines=4, most_days=3, astray=1 + seed % 2)
    nested = (("a", "b"), ("a", "b", "c"), ("a", "b", "c", "d"))
    for sections in ((), nested, (("a", "b"), ("c", "d"))):
        for charge in (HALF, THIRD, Fraction(5, 4)):
            yield (fresh("a", "b", "c", "d"), sections, (day(*[charge] * 4),) * 4)


class BookingsTest(unittest.TestCase):
    def test_all_bookings_and_ends(self):
        without = 0
        for sheet in many_sheets():
            close = all_close(sheet)
            self.assertEqual(close, sorted(close))
            self.assertEqual(list(bookings_of(sheet)), close, repr(sheet))
            self.assertEqual(list(all_ends(sheet)), sorted({end_of(sheet, booking) for booking in close}), repr(sheet))
            without += not close
        self.assertGreater(without, 10)

    def test_a_booking_to_each_end(self):
        for sheet in many_sheets():
            ends = list(all_ends(sheet))
            for cents in ends[:8]:
                booking = booking_to(sheet, cents)
                lets_booking(sheet, booking)
                self.assertEqual(end_of(sheet, booking), cents)

    def test_no_booking_to_other_cents(self):
        """All cents near the ends, whatever the bounds of the lines are."""
        for seed in range(60):
            sheet = random_sheet(seed, most_lines=3, most_days=2, astray=2)
            ends = list(all_ends(sheet))
            middle = ends[0] if ends else tuple(one[2] for one in sheet[0])
            for steps in itertools.product((-1, 0, 1, 2), repeat=len(middle)):
                cents = tuple(one + step for one, step in zip(middle, steps))
                self.assertEqual(booking_to(sheet, cents) is not None, cents in ends)
        self.assertIsNone(booking_to(MIXED, (10 ** 60 - 1, -(10 ** 59))))

    def test_without_days(self):
        """() is the only booking, also if the state is not close."""
        for state in (SHEET[0], (line("a", 5, -7), line("b", HALF, 9, False))):
            sheet = (state, (), ())
            cents = tuple(one[2] for one in state)
            self.assertEqual([list(bookings_of(sheet)), list(all_ends(sheet))], [[()], [cents]])
            self.assertEqual(booking_to(sheet, cents), ())
            self.assertIsNone(booking_to(sheet, changed(cents, 0, cents[0] + 1)))

    def test_without_a_close_booking(self):
        self.assertEqual([list(bookings_of(THREE)), list(all_ends(THREE)), booking_to(THREE, (1, 1, 1))], [[], [], None])

    def test_days_that_lead_nowhere(self):
        """The first day alone has close bookings, with the second one there are none, or fewer."""
        state = (line("a", HALF, 1), line("b", HALF, 1), line("c"))
        days = (day(0, 0, HALF), day(HALF, HALF, 0))
        self.assertEqual(list(bookings_of((state, (), days[:1]))), [((0, 0, 0),)])
        self.assertEqual(list(bookings_of((state, (), days))), [])
        halves = day(HALF, HALF, HALF, HALF)
        self.assertEqual(len(list(bookings_of((fresh(*"abcd"), (), (halves,))))), 6)
        both = list(bookings_of((fresh(*"abcd"), (), (halves, day(HALF, HALF, 0, 0)))))
        self.assertEqual([booking[0] for booking in both], [(0, 1, 0, 1), (0, 1, 1, 0), (1, 0, 0, 1), (1, 0, 1, 0)])

    def test_ended_lines_and_cents_below_zero(self):
        sheet = ((line("a", 0, -1), line("b", HALF, 1, False), line("c", THIRD, 1)), (), (day(2, 0, 2 * THIRD),))
        close = all_close(sheet)
        self.assertEqual(list(bookings_of(sheet)), close)
        self.assertEqual(list(all_ends(sheet)), sorted({end_of(sheet, booking) for booking in close}))

    def test_generators(self):
        """They are lazy enough for many bookings, and do not disturb each other."""
        self.assertIsInstance(bookings_of(SHEET), types.GeneratorType)
        self.assertIsInstance(all_ends(SHEET), types.GeneratorType)
        one, two, three = bookings_of(SHEET), bookings_of(SHEET), bookings_of(MIXED)
        self.assertEqual([next(one), next(three), next(two), next(one), next(three)], [
            ((0, 1), (1, 0)), ((1, 0),), ((0, 1), (1, 0)), ((1, 0), (0, 1)), ((1, 1),),
        ])
        self.assertEqual([list(one), list(two), list(three)], [[], [((1, 0), (0, 1))], []])
        rng = random.Random(6)
        days = tuple(day(*[Fraction(rng.randint(0, 99), 97) for _ in "abcdef"]) for _ in range(10))
        wide = (fresh(*"abcdef"), random_sections(rng, list("abcdef")), days)
        first = list(itertools.islice(bookings_of(wide), 50))
        self.assertEqual(first, sorted(set(first)))
        for booking in first:
            lets_booking(wide, booking)
        for cents in list(all_ends(wide))[:5]:
            self.assertEqual(end_of(wide, booking_to(wide, cents)), cents)

    def test_names_of_arguments_and_what_is_kept(self):
        shown = repr(SHEET)
        self.assertEqual(list(bookings_of(sheet=SHEET)), [((0, 1), (1, 0)), ((1, 0), (0, 1))])
        self.assertEqual(list(all_ends(sheet=SHEET)), [(1, 1)])
        booking = booking_to(cents=(1, 1), sheet=SHEET)
        self.assertIn(booking, list(bookings_of(SHEET)))
        self.assertTrue(type(booking) is tuple and all(type(row) is tuple for row in booking))
        self.assertTrue(all(type(cents) is int for row in booking for cents in row))
        self.assertEqual(repr(SHEET), shown)

    def test_examples(self):
        self.assertEqual(
            [list(bookings_of(SHEET)), list(all_ends(MIXED))], [[((0, 1), (1, 0)), ((1, 0), (0, 1))], [(1, 0), (1, 1)]],
        )
        self.assertEqual([booking_to(MIXED, (1, 1)), booking_to(MIXED, (0, 1))], [((1, 1),), None])


if __name__ == "__main__":
    unittest.main()
