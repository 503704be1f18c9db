"""[41] to [44], [7] (C3): prices, cheapest bookings, and cheapest papers."""

import random
import unittest
from fractions import Fraction

from centbook.bookingchecker import lets_booking
from centbook.cheapestchecker import lets_cheapest
from centbook.cheapestpapers import cheapest_paper
from centbook.findings import found_booking
from centbook.forced import forced_entries
from centbook.pricing import cheapest, price_of
from centbook.sheets import fresh
from tests.samples import all_close, changed, day, fraction_pair, line, random_sections, random_sheet, value_of

HALF, THIRD = Fraction(1, 2), Fraction(1, 3)
SHEET = ((("a", (0, 1), 0, True), ("b", (0, 1), 0, True)), (), (((1, 2), (1, 2)), ((1, 2), (1, 2))))
MIXED = ((("a", (0, 1), 0, True), ("b", (0, 1), 0, True)), (), (((1, 1), (1, 2)),))
THREE = ((("a", (1, 2), 1, True), ("b", (1, 2), 0, True), ("c", (1, 2), 0, True)), (), (((0, 1), (1, 2), (1, 2)),))
PRICES = (((1, 1), (0, 1)), ((0, 1), (2, 1)))


def random_prices(rng, sheet, kind):
    """Prices of a sheet: fractions, or below zero, or zero, or all alike, or a few only."""
    def price():
        if kind == "zero":
            return 0
        if kind == "alike":
            return alike
        if kind == "few" and rng.random() < 0.7:
            return 0
        return Fraction(rng.randint(-9, 3 if kind == "below" else 9), rng.choice((1, 1, 2, 3, 7)))

    alike = Fraction(rng.randint(-9, 9), 4)
    return tuple(day(*[price() for _ in sheet[0]]) for _ in sheet[2])


def plain_price(prices, booking):
    return sum((value_of(price) * cents for row, line_cents in zip(prices, booking) for price, cents in zip(row, line_cents)), Fraction(0))


def cheapest_ones(prices, close):
    """The least price, and the bookings with it."""
    least = min(plain_price(prices, booking) for booking in close)
    return least, [booking for booking in close if plain_price(prices, booking) == least]


KINDS = ("any", "below", "zero", "alike", "few")


class PricingTest(unittest.TestCase):
    def test_price_of(self):
        self.assertEqual(price_of(PRICES, ((1, 0), (0, 1))), (3, 1))
        self.assertEqual(price_of((((-1, 2), (1, 3)), ((5, 6), (0, 1))), ((3, 2), (1, 9))), (0, 1))
        self.assertEqual(price_of((((-1, 3),), ((-1, 6),)), ((1,), (2,))), (-2, 3))
        self.assertEqual(price_of((), ()), (0, 1))
        self.assertEqual(price_of(booking=((0, 0), (7, 0)), prices=PRICES), (0, 1))
        for seed in range(60):
            rng = random.Random(seed)
            sheet = random_sheet(seed)
            prices = random_prices(rng, sheet, "any")
            booking = tuple(tuple(rng.randint(0, 9) for _ in sheet[0]) for _ in sheet[2])
            self.assertEqual(price_of(prices, booking), fraction_pair(plain_price(prices, booking)))

    def check(self, sheet, prices, close):
        """The cheapest booking and the paper, compared with all close bookings."""
        found, paper = cheapest(sheet, prices), cheapest_paper(sheet, prices)
        if not close:
            self.assertEqual([found, paper], [None, None])
            return
        least, bookings = cheapest_ones(prices, close)
        self.assertEqual(found[0], fraction_pair(least), repr((sheet, prices)))
        self.assertIn(found[1], bookings)
        self.assertEqual(lets_cheapest(sheet, prices, paper), fraction_pair(least))
        self.assertIn(paper[0], bookings)
        self.check_paper(sheet, prices, paper)

    def check_paper(self, sheet, prices, paper):
        """The kinds of a paper's parts."""
        self.assertTrue(type(paper) is tuple and type(paper[0]) is tuple and type(paper[1]) is tuple and len(paper) == 2)
        for row in paper[1]:
            self.assertTrue(type(row) is tuple and row[0] in ("least", "most") and row[2][0] > 0)
        self.assertEqual(list(paper[1]), sorted(paper[1]))

    def test_against_all_close_bookings(self):
        without = 0
        for seed in range(250):
            sheet = random_sheet(seed, most_lines=4, most_days=3, astray=1 + seed % 2)
            close = all_close(sheet)
            for kind in KINDS:
                self.check(sheet, random_prices(random.Random(seed), sheet, kind), close)
            without += not close
        self.assertGreater(without, 20)

    def test_four_lines_and_four_days(self):
        nested = (("a", "b"), ("a", "b", "c"), ("a", "b", "c", "d"))
        rng = random.Random(4)
        for sections in ((), nested, (("a", "c"), ("b", "d"))):
            sheet = (fresh(*"abcd"), sections, (day(THIRD, THIRD, THIRD, THIRD), day(HALF, HALF, 2 * THIRD, THIRD)) * 2)
            close = all_close(sheet)
            for _ in range(15):
                self.check(sheet, random_prices(rng, sheet, rng.choice(("any", "below", "few"))), close)

    def test_without_days(self):
        for state in (SHEET[0], (line("a", 5, -7),)):
            sheet = (state, (), ())
            self.assertEqual(cheapest(sheet, ()), ((0, 1), ()))
            self.assertEqual(cheapest_paper(sheet, ()), ((), ()))

    def test_without_a_close_booking(self):
        prices = (((1, 1), (-2, 1), (1, 3)),)
        self.assertEqual([cheapest(THREE, prices), cheapest_paper(THREE, prices)], [None, None])

    def test_six_lines_and_ten_days(self):
        """The paper itself proves that the price is the least."""
        rng = random.Random(9)
        for k in range(8):
            under = rng.choice((2, 3, 7, 9973))
            state = []
            for name in "abcdef":
                exact = Fraction(rng.randint(0, 99), under) if k % 2 else Fraction(0)
                state.append(line(name, exact, exact.__floor__()))
            days = tuple(day(*[Fraction(rng.randint(0, 3 * under), under) for _ in state]) for _ in range(10))
            sheet = (tuple(state), random_sections(rng, list("abcdef")), days)
            prices = tuple(day(*[Fraction(rng.randint(-10 ** 6, 10 ** 6), rng.randint(1, 10 ** 4)) for _ in state]) for _ in days)
            if found_booking(sheet) is None:
                continue
            price, booking = cheapest(sheet, prices)
            lets_booking(sheet, booking)
            self.assertEqual(price_of(prices, booking), price)
            paper = cheapest_paper(sheet, prices)
            self.assertEqual(lets_cheapest(sheet, prices, paper), price)
            self.check_paper(sheet, prices, paper)

    def test_prices_multiplied(self):
        """The least price is multiplied, too, and the cheapest bookings stay cheapest."""
        for seed in range(40):
            rng = random.Random(seed)
            sheet = random_sheet(seed)
            prices = random_prices(rng, sheet, "any")
            found = cheapest(sheet, prices)
            if found is None:
                continue
            by = Fraction(rng.randint(1, 99), rng.randint(1, 99))
            more = tuple(day(*[value_of(price) * by for price in row]) for row in prices)
            price, booking = cheapest(sheet, more)
            self.assertEqual(value_of(price), value_of(found[0]) * by)
            self.assertEqual(price_of(prices, booking), found[0])
            multiplied = tuple(row[:2] + (fraction_pair(value_of(row[2]) * by),) for row in cheapest_paper(sheet, prices)[1])
            self.assertEqual(lets_cheapest(sheet, more, (booking, multiplied)), price)

    def test_prices_added_to_whole_sums(self):
        """To all entries of a day with a whole sum, or of a line with a whole sum behind the last day."""
        seen = 0
        for seed in range(150):
            rng = random.Random(seed)
            sheet = random_sheet(seed, most_lines=3, most_days=3, unders=(1, 2, 2))
            prices = random_prices(rng, sheet, "any")
            found = cheapest(sheet, prices)
            more = rng.randint(-5, 5)
            if found is None:
                continue
            for d, row in enumerate(sheet[2]):
                if sum(map(value_of, row)).denominator == 1:
                    added = changed(prices, d, day(*[value_of(price) + more for price in prices[d]]))
                    self.assertEqual(price_of(prices, cheapest(sheet, added)[1]), found[0])
                    seen += 1
            for i, one in enumerate(sheet[0]):
                if sheet[2] and (value_of(one[1]) + sum(value_of(row[i]) for row in sheet[2])).denominator == 1:
                    added = tuple(changed(row, i, fraction_pair(value_of(row[i]) + more)) for row in prices)
                    self.assertEqual(price_of(prices, cheapest(sheet, added)[1]), found[0])
                    seen += 1
        self.assertGreater(seen, 60)

    def test_lines_renamed_and_whole_cents_added(self):
        """The same papers, with the added cents in the booking."""
        for seed in range(60):
            rng = random.Random(seed)
            sheet = random_sheet(seed)
            state, sections, days = sheet
            prices = random_prices(rng, sheet, "any")
            paper = cheapest_paper(sheet, prices)
            if paper is None or not days:
                continue
            names = {one[0]: "x" + chr(ord("a") + k) for k, one in enumerate(state)}
            renamed = tuple((names[one[0]],) + one[1:] for one in state)
            others = tuple(tuple(names[name] for name in section) for section in sections)
            self.assertEqual(lets_cheapest((renamed, others, days), prices, paper), cheapest(sheet, prices)[0])
            name, exact, cents, goes_on = state[0]
            richer = changed(state, 0, (name, fraction_pair(value_of(exact) + 4), cents + 4, goes_on))
            self.assertEqual(lets_cheapest((richer, sections, days), prices, paper), cheapest(sheet, prices)[0])
            if goes_on:
                charge = fraction_pair(value_of(days[0][0]) + 5)
                more = (state, sections, changed(days, 0, changed(days[0], 0, charge)))
                booking = changed(paper[0], 0, changed(paper[0][0], 0, paper[0][0][0] + 5))
                price = value_of(cheapest(sheet, prices)[0]) + 5 * value_of(prices[0][0])
                self.assertEqual(lets_cheapest(more, prices, (booking, paper[1])), fraction_pair(price))

    def test_one_price_alone(self):
        """A price at one entry tells whether it is free: then a cent there can be had, or be spared."""
        for seed in range(40):
            sheet = random_sheet(seed)
            forced = forced_entries(sheet)
            if forced is None:
                continue
            known = {row[:2]: row[2] for row in forced}
            for d, row in enumerate(sheet[2]):
                for i, charge in enumerate(row):
                    one = tuple(tuple((int((e, j) == (d, i)), 1) for j in range(len(row))) for e in range(len(sheet[2])))
                    none = tuple(tuple((-over, under) for over, under in prices) for prices in one)
                    least, most = cheapest(sheet, one)[0][0], -cheapest(sheet, none)[0][0]
                    if (d, i) in known:
                        self.assertEqual((least, most), (known[d, i],) * 2)
                    else:
                        self.assertEqual((least, most), (charge[0] // charge[1], charge[0] // charge[1] + 1))

    def test_names_of_arguments_and_what_is_kept(self):
        shown = repr((SHEET, PRICES))
        self.assertEqual(cheapest(prices=PRICES, sheet=SHEET), ((0, 1), ((0, 1), (1, 0))))
        paper = cheapest_paper(prices=PRICES, sheet=SHEET)
        self.assertEqual(lets_cheapest(thing=paper, prices=PRICES, sheet=SHEET), (0, 1))
        self.assertEqual(repr((SHEET, PRICES)), shown)
        found = cheapest(SHEET, PRICES)
        self.assertTrue(type(found) is tuple and type(found[0]) is tuple and type(found[1]) is tuple)

    def test_examples(self):
        self.assertEqual(
            [cheapest(SHEET, PRICES), price_of(PRICES, ((1, 0), (0, 1)))], [((0, 1), ((0, 1), (1, 0))), (3, 1)],
        )


if __name__ == "__main__":
    unittest.main()
