"""[42], [43]: the checker of cheapest papers."""

import math
import random
import unittest
from fractions import Fraction

from centbook.cheapestchecker import lets_cheapest
from centbook.cheapestpapers import cheapest_paper
from centbook.errors import InvalidPaper
from centbook.kinds import is_fraction
from tests.samples import (
    ODD_VALUES, all_close, caught_error, changed, day, fraction_pair, is_plain_list, is_plain_rows, keeps_bounds, line, looks_like,
    plain_sums, random_sheet, spoiled, value_of,
)

HALF, THIRD = Fraction(1, 2), Fraction(1, 3)
MIXED = ((("a", (0, 1), 0, True), ("b", (0, 1), 0, True)), (), (((1, 1), (1, 2)),))
PRICES = (((2, 1), (-1, 1)),)
WEIGHTS = (("least", ("entry", 0, 0), (2, 1)), ("most", ("entry", 0, 1), (1, 1)))
PAPER = (((1, 1),), WEIGHTS)


def is_plain_weights(thing):
    """Whether a value is a tuple of (side, sum, fraction)."""
    if type(thing) is not tuple or any(type(row) is not tuple or len(row) != 3 for row in thing):
        return False
    return is_plain_list(tuple(row[:2] for row in thing), ("least", "most")) and all(is_fraction(row[2]) for row in thing)


def cheapest_error(sheet, prices, thing):
    """The price of the booking of a cheapest paper, or the first error (word, at), as the definition says."""
    if type(thing) is not tuple or len(thing) != 2 or not is_plain_rows(thing[0]) or not is_plain_weights(thing[1]):
        return "shape", -1
    state, _, days = sheet
    booking, weights = thing
    plain = plain_sums(sheet)
    if len(booking) != len(days) or any(len(row) != len(state) for row in booking) or not keeps_bounds(plain, booking):
        return "booking", -1
    if [row[:2] for row in weights] != sorted({row[:2] for row in weights}):
        return "order", -1
    rows = {which: (entries, exact, fixed) for which, entries, exact, fixed in plain}
    left = {(d, i): value_of(prices[d][i]) for d in range(len(days)) for i in range(len(state))}
    price = sum(cents * left[d, i] for d, row in enumerate(booking) for i, cents in enumerate(row))
    worth = Fraction(0)
    for k, (side, which, weight) in enumerate(weights):
        if which not in rows:
            return "sum", k
        if weight[0] <= 0:
            return "weight", k
    for side, which, weight in weights:
        entries, exact, fixed = rows[which]
        signed = value_of(weight) if side == "least" else -value_of(weight)
        worth += signed * ((math.floor(exact) if side == "least" else math.ceil(exact)) - fixed)
        for entry in entries:
            left[entry] -= signed
    for entry in sorted(left):
        if left[entry] != 0:
            return "entry", entry
    return fraction_pair(price) if worth == price else ("worth", -1)


class CheapestCheckerTest(unittest.TestCase):
    def check(self, sheet, prices, thing, word, at):
        with self.assertRaises(InvalidPaper, msg=repr(thing)) as caught:
            lets_cheapest(sheet, prices, thing)
        found = (caught.exception.word, caught.exception.at)
        self.assertTrue(looks_like(found, (word, at)), (found, word, at, thing))

    def test_accepted(self):
        self.assertEqual(lets_cheapest(MIXED, PRICES, PAPER), (1, 1))
        self.assertEqual(lets_cheapest(thing=PAPER, prices=PRICES, sheet=MIXED), (1, 1))
        day_at_most = (((1, 1),), (("least", ("entry", 0, 0), (3, 1)), ("most", ("day", 0), (1, 1))))
        self.assertEqual(lets_cheapest(MIXED, PRICES, day_at_most), (1, 1))

    def test_weights_that_cancel(self):
        """A whole sum may stand on both sides."""
        both = tuple(sorted(WEIGHTS + (("most", ("entry", 0, 0), (7, 3)),)))
        both = changed(both, 0, ("least", ("entry", 0, 0), (13, 3)))
        self.assertEqual(lets_cheapest(MIXED, PRICES, (((1, 1),), both)), (1, 1))
        spread = tuple(sorted(WEIGHTS + (("least", ("entry", 0, 1), (1, 2)),)))
        spread = changed(spread, 2, ("most", ("entry", 0, 1), (3, 2)))
        self.check(MIXED, PRICES, (((1, 1),), spread), "worth", -1)

    def test_weights_with_fixed_cents(self):
        sheet = ((line("a", HALF, 1), line("b", HALF, 0)), (), (day(HALF, HALF),))
        prices = (((3, 2), (1, 3)),)
        for weights in (
            (("least", ("line", 0, 0), (3, 2)), ("least", ("line", 1, 0), (1, 3))),
            (("least", ("account", 0), (1, 3)), ("least", ("line", 0, 0), (7, 6))),
            (("least", ("account", 0), (3, 2)), ("most", ("line", 1, 0), (7, 6))),
        ):
            self.assertEqual(lets_cheapest(sheet, prices, (((0, 1),), weights)), (1, 3))

    def test_no_weights(self):
        zero = (((0, 1), (0, 1)),)
        for booking in (((1, 0),), ((1, 1),)):
            self.assertEqual(lets_cheapest(MIXED, zero, (booking, ())), (0, 1))
        self.assertEqual(lets_cheapest((MIXED[0], (), ()), (), ((), ())), (0, 1))
        self.check((MIXED[0], (), ()), (), ((), (("least", ("day", 0), (1, 1)),)), "sum", 0)

    def test_shape(self):
        for odd in ODD_VALUES:
            self.check(MIXED, PRICES, odd, "shape", -1)
            if not is_plain_rows(odd):
                self.check(MIXED, PRICES, (odd, WEIGHTS), "shape", -1)
            if odd != ():
                self.check(MIXED, PRICES, (PAPER[0], odd), "shape", -1)
            self.check(MIXED, PRICES, (PAPER[0], WEIGHTS + (odd,)), "shape", -1)
            self.check(MIXED, PRICES, (PAPER[0], ((odd,) + WEIGHTS[0][1:], WEIGHTS[1])), "shape", -1)
            self.check(MIXED, PRICES, (PAPER[0], (WEIGHTS[0][:1] + (odd,) + WEIGHTS[0][2:],)), "shape", -1)
            self.check(MIXED, PRICES, (PAPER[0], (WEIGHTS[0][:2] + (odd,),)), "shape", -1)
        for weight in ((2, 4), (0, 2), (1, 0), (-2, -1), (True, 1), (1, True), (1,), (1, 1, 1), [1, 1], 1, "1/2", ("1", "2")):
            self.check(MIXED, PRICES, (PAPER[0], (WEIGHTS[0][:2] + (weight,),)), "shape", -1)
        for row in (
            ("more", ("entry", 0, 0), (1, 1)), ("least", ("entry", 0), (1, 1)), ("least", ("day", True), (1, 1)),
            ("least", ("entry", 0, 0)), ("least", ("entry", 0, 0), (1, 1), (1, 1)), (("least", ("entry", 0, 0)), (1, 1)),
        ):
            self.check(MIXED, PRICES, (PAPER[0], (row,)), "shape", -1)
        for thing in (PAPER[:1], PAPER + ((),), list(PAPER), PAPER[::-1], (((1, True),), WEIGHTS), (((1, -1),), WEIGHTS), ([(1, 1)], WEIGHTS)):
            self.check(MIXED, PRICES, thing, "shape", -1)

    def test_booking(self):
        for booking in ((), ((1,),), ((1, 1, 1),), ((1, 1), (0, 0)), ((0, 1),), ((1, 2),), ((),), ((2, 0),)):
            self.check(MIXED, PRICES, (booking, WEIGHTS), "booking", -1)
            self.check(MIXED, PRICES, (booking, WEIGHTS[::-1]), "booking", -1)

    def test_order(self):
        for weights in (WEIGHTS[::-1], WEIGHTS[:1] * 2, (WEIGHTS[0], ("least", ("entry", 0, 0), (3, 1)), WEIGHTS[1])):
            self.check(MIXED, PRICES, (PAPER[0], weights), "order", -1)
        self.check(MIXED, PRICES, (PAPER[0], (("most", ("day", 7), (-1, 1)), WEIGHTS[0])), "order", -1)

    def test_sum_and_weight(self):
        for which in (("account", 1), ("day", 1), ("entry", 1, 0), ("entry", 0, 2), ("line", 2, 0), ("line", 0, 1), ("section", 0, 0)):
            self.check(MIXED, PRICES, (PAPER[0], (("least", which, (1, 1)),)), "sum", 0)
            weights = tuple(sorted(WEIGHTS + (("most", which, (-1, 1)),)))
            self.check(MIXED, PRICES, (PAPER[0], weights), "sum", [row[1] for row in weights].index(which))
        for weight in ((0, 1), (-1, 1), (-5, 3)):
            self.check(MIXED, PRICES, (PAPER[0], changed(WEIGHTS, 0, WEIGHTS[0][:2] + (weight,))), "weight", 0)
            self.check(MIXED, PRICES, (PAPER[0], changed(WEIGHTS, 1, WEIGHTS[1][:2] + (weight,))), "weight", 1)
        two = (("least", ("day", 0), (-1, 1)), ("least", ("day", 1), (1, 1)))
        self.check(MIXED, PRICES, (PAPER[0], two), "weight", 0)
        two = (("least", ("day", 1), (0, 1)), ("least", ("day", 2), (1, 1)))
        self.check(MIXED, PRICES, (PAPER[0], two), "sum", 0)

    def test_entry(self):
        self.check(MIXED, PRICES, (PAPER[0], ()), "entry", (0, 0))
        self.check(MIXED, PRICES, (PAPER[0], WEIGHTS[:1]), "entry", (0, 1))
        self.check(MIXED, PRICES, (PAPER[0], WEIGHTS[1:]), "entry", (0, 0))
        self.check(MIXED, PRICES, (PAPER[0], changed(WEIGHTS, 0, WEIGHTS[0][:2] + ((19, 10),))), "entry", (0, 0))
        self.check(MIXED, PRICES, (PAPER[0], changed(WEIGHTS, 1, ("most", ("day", 0), (1, 1)))), "entry", (0, 0))
        self.check(MIXED, PRICES, (PAPER[0], (("least", ("entry", 0, 0), (2, 1)), ("least", ("entry", 0, 1), (1, 1)))), "entry", (0, 1))
        later = (MIXED[0], (), MIXED[2] * 2)
        self.check(later, PRICES * 2, (((1, 1), (1, 0)), WEIGHTS), "entry", (1, 0))

    def test_worth(self):
        self.check(MIXED, PRICES, (((1, 0),), WEIGHTS), "worth", -1)
        other = (("least", ("day", 0), (2, 1)), ("most", ("entry", 0, 1), (3, 1)))
        self.check(MIXED, PRICES, (((1, 1),), other), "worth", -1)
        self.assertEqual(cheapest_error(MIXED, PRICES, (((1, 1),), other)), ("worth", -1))

    def test_two_errors(self):
        self.check(MIXED, PRICES, (((0, 1),), WEIGHTS[:1]), "booking", -1)
        self.check(MIXED, PRICES, (((1, 0),), WEIGHTS[:1]), "entry", (0, 1))
        self.check(MIXED, PRICES, (((1, 0),), WEIGHTS[::-1]), "order", -1)
        self.check(MIXED, PRICES, (((0, True),), WEIGHTS[::-1]), "shape", -1)
        self.check(MIXED, PRICES, (((1, 0),), changed(WEIGHTS, 0, ("least", ("entry", 0, 0), (0, 1)))), "weight", 0)

    def test_spoiled_papers(self):
        """Papers with one or two parts changed, and prices that are changed, against the definition."""
        seen = {}
        for seed in range(150):
            rng = random.Random(seed)
            sheet = random_sheet(seed, most_lines=4, most_days=3)
            prices = tuple(day(*[Fraction(rng.randint(-3, 3), rng.choice((1, 1, 2))) for _ in sheet[0]]) for _ in sheet[2])
            paper = cheapest_paper(sheet, prices)
            if paper is None:
                continue
            for k in range(60):
                thing = spoiled(paper, rng) if rng.random() < 0.9 else (rng.choice(all_close(sheet)), paper[1])
                if k % 3 == 0:
                    thing = spoiled(thing, rng)
                self.check_against_definition(sheet, prices, thing, seen)
            if sheet[2]:
                other = changed(prices, 0, changed(prices[0], 0, (17, 2)))
                self.check_against_definition(sheet, other, paper, seen)
        self.assertEqual(sorted(seen), ["accepted", "booking", "entry", "order", "shape", "sum", "weight", "worth"])

    def check_against_definition(self, sheet, prices, thing, seen):
        expected = cheapest_error(sheet, prices, thing)
        found = caught_error(lets_cheapest, sheet, prices, thing)
        self.assertTrue(looks_like(found, expected), repr((sheet, prices, thing, found, expected)))
        word = expected[0] if isinstance(expected[0], str) else "accepted"
        seen[word] = seen.get(word, 0) + 1

    def test_what_is_accepted_is_cheapest(self):
        """Each close booking with the weights of a paper: accepted exactly if its price is the least."""
        for seed in range(60):
            rng = random.Random(seed)
            sheet = random_sheet(seed, most_lines=3, most_days=2)
            prices = tuple(day(*[rng.randint(-2, 2) for _ in sheet[0]]) for _ in sheet[2])
            close = all_close(sheet)
            if not close:
                continue
            weights = cheapest_paper(sheet, prices)[1]

            def price(booking):
                return sum(prices[d][i][0] * cents for d, row in enumerate(booking) for i, cents in enumerate(row))

            least = min(map(price, close))
            for booking in close:
                expected = (least, 1) if price(booking) == least else ("worth", -1)
                self.assertEqual(caught_error(lets_cheapest, sheet, prices, (booking, weights)), expected)

    def test_what_is_kept(self):
        shown = repr((MIXED, PRICES, PAPER))
        lets_cheapest(MIXED, PRICES, PAPER)
        self.assertEqual(repr((MIXED, PRICES, PAPER)), shown)

    def test_examples(self):
        self.assertEqual(lets_cheapest(MIXED, (((2, 1), (-1, 1)),), PAPER), (1, 1))
        self.check(MIXED, (((2, 1), (-1, 1)),), (((1, 0),), WEIGHTS), "worth", -1)


if __name__ == "__main__":
    unittest.main()
