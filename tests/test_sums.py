"""[5], [22], [23]: the sums of a sheet."""

import math
import unittest
from fractions import Fraction

from centbook.sums import cents_of, entries_of, exact_of, fixed_of, is_close, least_of, most_of, sums_of
from tests.samples import bookings_to_try, day, fraction_pair, keeps_bounds, line, plain_sums, random_sheet

SHEET = ((("a", (0, 1), 0, True), ("b", (0, 1), 0, True)), (), (((1, 2), (1, 2)), ((1, 2), (1, 2))))
THREE = ((("a", (1, 2), 1, True), ("b", (1, 2), 0, True), ("c", (1, 2), 0, True)), (), (((0, 1), (1, 2), (1, 2)),))
MANY = (
    (line("a", Fraction(7, 2), 3), line("b", Fraction(1, 3), -2), line("c", Fraction(9, 4), 5, False)),
    (("a", "b", "c"), ("a", "c")),
    (day(Fraction(1, 2), Fraction(2, 3), 0), day(2, Fraction(1, 3), 0)),
)
SHEETS = [SHEET, THREE, MANY] + [random_sheet(seed, most_lines=6, most_days=5, astray=3) for seed in range(150)]


class SumsTest(unittest.TestCase):
    def test_all_sums_in_order(self):
        for sheet in SHEETS:
            found = list(sums_of(sheet))
            self.assertEqual(found, [row[0] for row in plain_sums(sheet)])
            self.assertEqual(found, sorted(set(found)))
            self.assertTrue(all(type(which) is tuple for which in found))

    def test_sums_of_a_small_sheet(self):
        expected = [
            ("account", 0), ("account", 1), ("day", 0), ("day", 1), ("entry", 0, 0), ("entry", 0, 1), ("entry", 0, 2),
            ("entry", 1, 0), ("entry", 1, 1), ("entry", 1, 2), ("line", 0, 0), ("line", 0, 1), ("line", 1, 0), ("line", 1, 1),
            ("line", 2, 0), ("line", 2, 1), ("section", 0, 0), ("section", 0, 1), ("section", 1, 0), ("section", 1, 1),
        ]
        self.assertEqual(list(sums_of(MANY)), expected)
        self.assertEqual(list(sums_of(sheet=SHEET))[:5], [("account", 0), ("account", 1), ("day", 0), ("day", 1), ("entry", 0, 0)])

    def test_no_days(self):
        self.assertEqual(list(sums_of((MANY[0], MANY[1], ()))), [])

    def test_a_generator_yields_one_by_one(self):
        one, other = sums_of(MANY), sums_of(SHEET)
        self.assertIs(iter(one), one)
        mixed = [(next(one), next(other)) for _ in range(12)]
        self.assertEqual([pair[0] for pair in mixed], list(sums_of(MANY))[:12])
        self.assertEqual([pair[1] for pair in mixed], list(sums_of(SHEET)))
        self.assertEqual(next(other, None), None)
        self.assertEqual(list(one), list(sums_of(MANY))[12:])

    def test_entries(self):
        for which, entries in (
            (("account", 0), ((0, 0), (0, 1), (0, 2))),
            (("account", 1), ((0, 0), (0, 1), (0, 2), (1, 0), (1, 1), (1, 2))),
            (("day", 1), ((1, 0), (1, 1), (1, 2))), (("entry", 1, 2), ((1, 2),)), (("line", 2, 0), ((0, 2),)),
            (("line", 2, 1), ((0, 2), (1, 2))), (("section", 0, 1), ((1, 0), (1, 1), (1, 2))),
            (("section", 1, 0), ((0, 0), (0, 2))),
        ):
            self.assertEqual(entries_of(MANY, which), entries)
            self.assertEqual(entries_of(which=which, sheet=MANY), entries)

    def test_all_of_a_sum(self):
        for sheet in SHEETS:
            for which, entries, exact, fixed in plain_sums(sheet):
                self.assertEqual(entries_of(sheet, which), tuple(entries))
                self.assertEqual(exact_of(sheet, which), fraction_pair(exact))
                self.assertEqual(least_of(sheet, which), math.floor(exact))
                self.assertEqual(most_of(sheet, which), math.ceil(exact))
                self.assertEqual(fixed_of(sheet, which), fixed)

    def test_exact_and_fixed(self):
        for which, exact, least, most, fixed in (
            (("account", 0), (29, 4), 7, 8, 6), (("account", 1), (115, 12), 9, 10, 6), (("day", 0), (7, 6), 1, 2, 0),
            (("entry", 0, 2), (0, 1), 0, 0, 0), (("entry", 1, 0), (2, 1), 2, 2, 0), (("line", 0, 0), (4, 1), 4, 4, 3),
            (("line", 1, 1), (4, 3), 1, 2, -2), (("line", 2, 1), (9, 4), 2, 3, 5), (("section", 1, 0), (1, 2), 0, 1, 0),
            (("section", 0, 1), (7, 3), 2, 3, 0),
        ):
            self.assertEqual(exact_of(MANY, which), exact)
            self.assertEqual((least_of(MANY, which), most_of(MANY, which), fixed_of(MANY, which)), (least, most, fixed))
            named = {"sheet": MANY, "which": which}
            self.assertEqual((exact_of(**named), least_of(**named), most_of(**named), fixed_of(**named)), (exact, least, most, fixed))

    def test_cents(self):
        booking = ((1, 20, 300), (4000, 50000, 600000))
        for which, cents in (
            (("account", 0), 327), (("account", 1), 654327), (("day", 1), 654000), (("entry", 1, 1), 50000), (("line", 0, 0), 4),
            (("line", 0, 1), 4004), (("line", 1, 1), 50018), (("line", 2, 0), 305), (("section", 1, 1), 604000),
            (("section", 0, 0), 321),
        ):
            self.assertEqual(cents_of(MANY, booking, which), cents)
            self.assertEqual(cents_of(sheet=MANY, booking=booking, which=which), cents)

    def test_is_close(self):
        for sheet in [random_sheet(seed) for seed in range(200)]:
            rows = plain_sums(sheet)
            for booking in list(bookings_to_try(sheet))[:20]:
                expected = keeps_bounds(rows, booking)
                self.assertIs(is_close(sheet, booking), expected)
                if booking:
                    self.assertIs(is_close(sheet, ((booking[0][0] + 2,) + booking[0][1:],) + booking[1:]), False)

    def test_each_bound_counts(self):
        """Sheets of one day on which only one sum is out of its bounds."""
        half, third = Fraction(1, 2), Fraction(1, 3)
        for sheet, good, bad in (
            (((line("a"),), (), (day(half),)), ((1,),), ((2,),)),
            (((line("a"),), (), (day(Fraction(3, 2)),)), ((1,),), ((0,),)),
            (((line("a"), line("b")), (), (day(half, half),)), ((1, 0),), ((1, 1),)),
            (((line("a"), line("b")), (), (day(half, half),)), ((0, 1),), ((0, 0),)),
            (((line("a"),), (), (day(half), day(half))), ((1,), (0,)), ((1,), (1,))),
            (((line("a"), line("b", third, 1)), (), (day(third, 0),)), ((0, 0),), ((1, 0),)),
            (((line("a"), line("b"), line("c")), (("a", "b"),), (day(half, half, half),)), ((1, 0, 1),), ((1, 1, 0),)),
            (((line("a"), line("b"), line("c")), (("a", "b"),), (day(half, half, half),)), ((1, 0, 0),), ((0, 0, 1),)),
            (((line("a"), line("b", half, 1, False)), (), (day(half, 0),)), ((0, 0),), ((2, 0),)),
        ):
            self.assertIs(is_close(sheet, good), True)
            self.assertIs(is_close(sheet=sheet, booking=bad), False)

    def test_without_days_the_only_booking_is_close(self):
        for state in (THREE[0], (line("a", 5, -7),), (line("a", Fraction(1, 2), 9, False),)):
            self.assertIs(is_close((state, (), ()), ()), True)

    def test_examples(self):
        self.assertEqual(entries_of(SHEET, ("line", 1, 1)), ((0, 1), (1, 1)))
        which = ("account", 0)
        found = [exact_of(THREE, which), least_of(THREE, which), most_of(THREE, which), fixed_of(THREE, which)]
        self.assertEqual(found, [(5, 2), 2, 3, 1])
        self.assertEqual(cents_of(SHEET, ((1, 0), (0, 1)), ("account", 1)), 2)
        self.assertEqual([is_close(SHEET, ((1, 0), (0, 1))), is_close(SHEET, ((1, 0), (1, 0)))], [True, False])


if __name__ == "__main__":
    unittest.main()
