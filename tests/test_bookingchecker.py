"""[24], [25]: the checker of bookings."""

import itertools
import unittest
from fractions import Fraction

from centbook.bookingchecker import lets_booking
from centbook.errors import InvalidPaper
from centbook.kinds import is_rows_of_numbers
from centbook.sheets import part, state_after
from tests.samples import (
    ODD_VALUES, all_close, bookings_to_try, changed, day, keeps_bounds, line, plain_sums, random_sheet, value_of,
)

HALF, THIRD = Fraction(1, 2), Fraction(1, 3)
SHEET = ((("a", (0, 1), 0, True), ("b", (0, 1), 0, True)), (), (((1, 2), (1, 2)), ((1, 2), (1, 2))))
FOUR = (tuple(line(name) for name in "abcd"), (("a", "b"), ("a", "b", "c")), (day(HALF, HALF, HALF, HALF),) * 2)


class BookingCheckerTest(unittest.TestCase):
    def check(self, sheet, thing, word, at):
        with self.assertRaises(InvalidPaper, msg=repr(thing)) as caught:
            lets_booking(sheet, thing)
        self.assertEqual((caught.exception.word, caught.exception.at), (word, at), repr((sheet, thing)))

    def test_accepted(self):
        self.assertEqual(lets_booking(SHEET, ((1, 0), (0, 1))), 2)
        self.assertEqual(lets_booking(thing=((0, 1), (1, 0)), sheet=SHEET), 2)
        self.assertEqual(lets_booking(FOUR, ((1, 0, 0, 1), (0, 1, 1, 0))), 4)
        self.assertEqual(lets_booking(((line("a", 5, 5),), (), (day(7), day(Fraction(3, 2)))), ((7,), (2,))), 9)

    def test_no_days(self):
        for state in (SHEET[0], (line("a", 5, -7, False),)):
            self.assertEqual(lets_booking((state, (), ()), ()), 0)
            self.check((state, (), ()), ((),), "days", -1)
            self.check((state, (), ()), ((0,),), "days", -1)
            self.check((state, (), ()), [], "shape", -1)
            self.check((state, (), ()), None, "shape", -1)

    def test_shape(self):
        for odd in ODD_VALUES:
            if not is_rows_of_numbers(odd):
                self.check(SHEET, odd, "shape", -1)
            if not is_rows_of_numbers((odd,)):
                self.check(SHEET, ((0, 1), odd), "shape", -1)
            if not is_rows_of_numbers(((odd,),)):
                self.check(SHEET, ((0, 1), (1, odd)), "shape", -1)
        for thing in (
            ((True, 0), (0, 1)), ((1, False), (0, 1)), ((1, 0), (0, -1)), [(1, 0), (0, 1)], ([1, 0], [0, 1]), (1, 0), ((1, 0), 1),
            ((1, 0), (0, "1")), ((1, 0), (0, None)), ((1, 0), (0, (1, 1))), ((-1,),), ((1, 0), (0, 1), (True, 0)), ((0, 0, True),),
            None, "", 0, True, [], "ab", ["a"], ((((),),),),
        ):
            self.check(SHEET, thing, "shape", -1)

    def test_days(self):
        for thing in ((), ((1, 0),), ((1, 0), (0, 1), (0, 0)), ((),), ((), (), ()), ((1,), (1,), (1,)), ((5, 5),) * 9):
            self.check(SHEET, thing, "days", -1)

    def test_lines(self):
        for thing, d in (
            (((1,), (0, 1)), 0), (((1, 0), (0,)), 1), (((1, 0), (0, 1, 0)), 1), (((), ()), 0), (((1, 0, 0), (1,)), 0),
            (((9, 9), ()), 1),
        ):
            self.check(SHEET, thing, "lines", d)

    def test_each_kind_of_sum(self):
        """For each kind of sum a booking of which this is the first sum below its least, or above its most."""
        two, four = (line("a"), line("b")), tuple(line(name) for name in "abcd")
        halves = (day(HALF, HALF), day(HALF, HALF))
        pairs = (("a", "b"), ("c", "d"))
        behind = (line("a", HALF), line("b", HALF))
        for sheet, thing, word, at in (
            ((two, (), halves), ((0, 0), (1, 1)), "least", ("account", 0)),
            ((two, (), halves), ((1, 1), (0, 0)), "most", ("account", 0)),
            ((two, (), halves), ((1, 0), (0, 0)), "least", ("account", 1)),
            ((two, (), halves), ((1, 0), (1, 1)), "most", ("account", 1)),
            (((line("a", HALF, 1), line("b")), (), (day(HALF, HALF),)), ((0, 0),), "least", ("day", 0)),
            ((behind, (), (day(THIRD, THIRD),)), ((1, 1),), "most", ("day", 0)),
            ((behind, (), (day(0, 0), day(THIRD, THIRD))), ((0, 0), (1, 1)), "least", ("account", 0)),
            ((two, (), (day(1, 1), day(3 * HALF, HALF))), ((1, 1), (0, 2)), "least", ("entry", 1, 0)),
            ((two, (), (day(1, 1), day(3 * HALF, HALF))), ((1, 1), (0, 3)), "most", ("account", 1)),
            ((two, (), (day(HALF, 3 * HALF),)), ((2, 0),), "most", ("entry", 0, 0)),
            ((two, (), (day(HALF, HALF), day(0, 1))), ((1, 0), (1, 0)), "most", ("entry", 1, 0)),
            ((two, (), halves), ((0, 1), (0, 1)), "least", ("line", 0, 1)),
            ((two, (), halves), ((1, 0), (1, 0)), "most", ("line", 0, 1)),
            ((four, pairs, (day(HALF, HALF, HALF, HALF),)), ((0, 0, 1, 1),), "least", ("section", 0, 0)),
            ((four, pairs, (day(HALF, HALF, HALF, HALF),)), ((1, 1, 0, 0),), "most", ("section", 0, 0)),
            ((four, pairs, (day(0, 0, 0, 0), day(THIRD, THIRD, THIRD, THIRD))), ((0,) * 4, (0, 0, 1, 1)), "most", ("section", 1, 1)),
            ((four, pairs[1:], (day(HALF, HALF, HALF, HALF),)), ((1, 1, 0, 0),), "least", ("section", 0, 0)),
        ):
            self.check(sheet, thing, word, at)

    def test_first_broken_bound(self):
        """Against the definition, for all bookings near the close ones and some further away."""
        for seed in range(150):
            sheet = random_sheet(seed, astray=2)
            rows = plain_sums(sheet)
            for booking in list(bookings_to_try(sheet))[:25]:
                some = [booking]
                if booking:
                    some.append(changed(booking, 0, (booking[0][0] + 3,) + booking[0][1:]))
                    some.append(tuple((0,) * len(row) for row in booking))
                for thing in some:
                    self.check_against_definition(sheet, rows, thing)

    def check_against_definition(self, sheet, rows, thing):
        for which, entries, exact, fixed in rows:
            cents = fixed + sum(thing[d][i] for d, i in entries)
            if cents < exact.numerator // exact.denominator:
                return self.check(sheet, thing, "least", which)
            if cents > -(-exact.numerator // exact.denominator):
                return self.check(sheet, thing, "most", which)
        return self.assertEqual(lets_booking(sheet, thing), sum(map(sum, thing)))

    def test_accepts_exactly_the_close_ones(self):
        for seed in range(120):
            sheet = random_sheet(seed)
            rows = plain_sums(sheet)
            for booking in list(bookings_to_try(sheet))[:40]:
                try:
                    lets_booking(sheet, booking)
                    accepted = True
                except InvalidPaper:
                    accepted = False
                self.assertIs(accepted, keeps_bounds(rows, booking))

    def test_consequences(self):
        for seed in range(80):
            sheet = random_sheet(seed)
            rows, close = plain_sums(sheet), all_close(sheet)
            for booking in close[:12]:
                self.check_consequences(sheet, rows, booking)
            for one, other in itertools.combinations(close[:12], 2):
                for which, entries, _, _ in rows:
                    if which[0] in ("day", "section", "account"):
                        self.assertLessEqual(abs(sum(one[d][i] - other[d][i] for d, i in entries)), 1)

    def check_consequences(self, sheet, rows, booking):
        state, _, days = sheet
        for which, entries, exact, fixed in rows:
            cents = fixed + sum(booking[d][i] for d, i in entries)
            if exact.denominator == 1:
                self.assertEqual(cents, exact)
            if which[0] in ("line", "account"):
                self.assertLess(abs(cents - exact), 1)
        for d in range(len(days) + 1):
            self.assertEqual(lets_booking(part(sheet, 0, d), booking[:d]), sum(map(sum, booking[:d])))
        if days:
            after = state_after(sheet, booking)
            self.assertTrue(all(abs(one[2] - value_of(one[1])) < 1 for one in after))

    def test_a_state_that_is_not_close(self):
        sheet = ((line("a", HALF, 2),), (), (day(Fraction(3, 4)),))
        self.assertEqual(lets_booking(sheet, ((0,),)), 0)
        self.check(sheet, ((1,),), "most", ("account", 0))

    def test_examples(self):
        self.check(SHEET, ((1, 0), (1, 0)), "most", ("line", 0, 1))
        self.check(SHEET, ((1, 0),), "days", -1)


if __name__ == "__main__":
    unittest.main()
