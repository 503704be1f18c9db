"""[12], [13], [14]: amounts."""

import unittest
from fractions import Fraction

from centbook.amounts import Amount
from centbook.errors import InvalidAmount, InvalidText
from tests.samples import fraction_pair

NUMBERS = tuple(Fraction(over, under) for under in (1, 2, 3, 10) for over in range(-7, 8))
NO_AMOUNTS = (True, False, None, "1", "", "1/2", (1, 2), (0, 1), (), [1, 2], [], (1,), [Amount(1)], (Amount(1),))


def amount(value):
    return Amount(*fraction_pair(value))


class AmountsTest(unittest.TestCase):
    def check_refused(self, call, value):
        with self.assertRaises(InvalidAmount) as caught:
            call()
        self.assertIs(caught.exception.value, value)

    def test_lowest_terms(self):
        for over, under, pair in (
            (6, -4, (-3, 2)), (-6, -4, (3, 2)), (0, 7, (0, 1)), (0, -7, (0, 1)), (4, 2, (2, 1)), (-5, 1, (-5, 1)),
            (5, -1, (-5, 1)), (10 ** 60, 4 * 10 ** 59, (5, 2)),
        ):
            self.assertEqual(Amount(over, under).pair, pair)
            self.assertEqual(Amount(under=under, over=over).pair, pair)
            self.assertIs(type(Amount(over, under).pair), tuple)
        self.assertEqual(Amount(7).pair, (7, 1))
        self.assertEqual(Amount(over=-7).pair, (-7, 1))

    def test_wrong_arguments(self):
        for odd in NO_AMOUNTS + (Amount(2),):
            self.check_refused(lambda: Amount(odd), odd)
            self.check_refused(lambda: Amount(odd, 2), odd)
            self.check_refused(lambda: Amount(odd, 0), odd)
            self.check_refused(lambda: Amount(odd, None), odd)
            self.check_refused(lambda: Amount(3, odd), odd)
            self.check_refused(lambda: Amount(under=odd, over=0), odd)
        self.check_refused(lambda: Amount(3, 0), 0)
        self.check_refused(lambda: Amount(0, 0), 0)

    def test_operators(self):
        for one in NUMBERS:
            for other in NUMBERS:
                self.assertEqual((amount(one) + amount(other)).pair, fraction_pair(one + other))
                self.assertEqual((amount(one) - amount(other)).pair, fraction_pair(one - other))
                self.assertEqual((amount(one) * amount(other)).pair, fraction_pair(one * other))

    def test_operators_with_integers(self):
        for one in NUMBERS:
            for other in (-3, -1, 0, 1, 2, 10 ** 30):
                found = [
                    amount(one) + other, other + amount(one), amount(one) - other, other - amount(one),
                    amount(one) * other, other * amount(one),
                ]
                expected = [one + other, other + one, one - other, other - one, one * other, other * one]
                self.assertEqual([each.pair for each in found], [fraction_pair(value) for value in expected])
                self.assertTrue(all(type(each) is Amount for each in found))

    def test_signs(self):
        for one in NUMBERS:
            self.assertEqual((-amount(one)).pair, fraction_pair(-one))
            self.assertEqual(abs(amount(one)).pair, fraction_pair(abs(one)))
            self.assertIs(bool(amount(one)), one != 0)

    def test_results_are_new_and_the_parts_stay(self):
        one, other = Amount(3, 4), Amount(-1, 4)
        for made in (one + 0, 0 + one, one - 0, one * 1, 1 * one, -one, abs(one), one + other, one - other, one * other):
            self.assertIs(type(made), Amount)
            self.assertIsNot(made, one)
        one.compared(other)
        self.assertEqual([one.pair, other.pair], [(3, 4), (-1, 4)])
        kept = one
        one += 1
        self.assertEqual([kept.pair, one.pair], [(3, 4), (7, 4)])

    def test_wrong_operands(self):
        half = Amount(1, 2)
        for odd in NO_AMOUNTS:
            for call in (
                lambda: half + odd, lambda: odd + half, lambda: half - odd, lambda: odd - half,
                lambda: half * odd, lambda: odd * half, lambda: half.compared(odd), lambda: half.compared(other=odd),
                lambda: Amount(0) * odd, lambda: odd * Amount(0),
            ):
                self.check_refused(call, odd)

    def test_compared(self):
        for one in NUMBERS:
            for other in NUMBERS:
                expected = (one > other) - (one < other)
                found = amount(one).compared(amount(other))
                self.assertEqual(found, expected)
                self.assertIs(type(found), int)
                if other.denominator == 1:
                    self.assertEqual(amount(one).compared(int(other)), expected)

    def test_no_order(self):
        half = Amount(1, 2)
        for call in (lambda: half < half, lambda: half <= half, lambda: half > 1, lambda: half >= 0, lambda: 1 < half):
            self.assertRaises(TypeError, call)

    def test_equality(self):
        for one in NUMBERS:
            for other in NUMBERS:
                self.assertIs(amount(one) == amount(other), one == other)
                self.assertIs(amount(one) != amount(other), one != other)
        for odd in NO_AMOUNTS + (2, 0, 1, Fraction(2), object()):
            for one in (Amount(2), Amount(0), Amount(1), Amount(1, 2)):
                self.assertIs(one == odd, False)
                self.assertIs(odd == one, False)
                self.assertIs(one != odd, True)
                self.assertIs(odd != one, True)
        self.assertIn(Amount(1, 2), [1, None, Amount(2, 4)])

    def test_rounding(self):
        for one in NUMBERS:
            made = amount(one)
            self.assertEqual(made.down, one.numerator // one.denominator)
            self.assertEqual(made.up, -((-one.numerator) // one.denominator))
            self.assertEqual(made.up - made.down, 0 if one.denominator == 1 else 1)
            self.assertTrue(made.compared(made.down) >= 0 and made.compared(made.up) <= 0)
            self.assertTrue(type(made.down) is int and type(made.up) is int)

    def test_rules_of_fractions(self):
        some = [amount(value) for value in NUMBERS[::4]]
        for one in some:
            self.assertEqual(one + 0, one)
            self.assertEqual(one * 1, one)
            self.assertEqual(one - one, Amount(0))
            for other in some:
                self.assertEqual(one + other, other + one)
                self.assertEqual(one * other, other * one)
                self.assertEqual(one - other, -(other - one))
                for third in some:
                    self.assertEqual((one + other) * third, one * third + other * third)
                    self.assertEqual((one + other) + third, one + (other + third))

    def test_written_form(self):
        for made, text in (
            (Amount(6, -4), "-3/2"), (Amount(0), "0"), (Amount(0, 9), "0"), (Amount(-12), "-12"), (Amount(1, 3), "1/3"),
            (Amount(-1), "-1"), (Amount(1), "1"), (Amount(-1, 2), "-1/2"), (Amount(9), "9"), (Amount(10), "10"),
            (Amount(10 ** 60), "1" + "0" * 60), (Amount(1, 10 ** 60), "1/1" + "0" * 60),
        ):
            self.assertEqual(str(made), text)
            self.assertEqual(f"{made}", text)

    def test_very_long_numbers(self):
        power = Amount(1)
        for _ in range(100):
            power = power * Amount(10 ** 59)
        self.assertEqual(str(power), "1" + "0" * 5900)
        self.assertEqual(str(-power), "-1" + "0" * 5900)

    def test_read(self):
        for text, pair in (("0", (0, 1)), ("-3/2", (-3, 2)), ("12", (12, 1)), ("9" * 60, (10 ** 60 - 1, 1))):
            made = Amount.read(text)
            self.assertIs(type(made), Amount)
            self.assertEqual(made.pair, pair)
            self.assertEqual(Amount.read(text=text), made)
            self.assertEqual(str(made), text)
        self.assertEqual(Amount(5, 3).read("1/2").pair, (1, 2))

    def test_read_refuses(self):
        for text in ("", "-", " ", "\n", "1\n", "2/4", "1/1", "1/0", "01", "-0", "+1", "1 2", "1/-2", "0/2", "9" * 61, "x"):
            with self.assertRaises(InvalidText) as caught:
                Amount.read(text)
            self.assertEqual((caught.exception.row, caught.exception.field), (0, 0))

    def test_zero(self):
        self.assertEqual(Amount.ZERO, (0, 1))
        self.assertIs(type(Amount.ZERO), tuple)
        self.assertEqual(Amount(3).ZERO, (0, 1))

    def test_examples(self):
        half = Amount(1, 2)
        found = [
            (half + Amount(1, 3)).pair, (2 - half * 5).pair, (-half).down, abs(Amount(-7, 2)).up, half.compared(1),
            half == Amount(2, 4),
        ]
        self.assertEqual(found, [(5, 6), (-1, 2), -1, 4, -1, True])
        self.assertEqual([str(Amount(6, -4)), bool(Amount(0, 7)), Amount(4, 2) == 2], ["-3/2", False, False])
        self.check_refused(lambda: half + "1", "1")

    def test_methods_stand_in_the_class(self):
        names = (
            "__init__", "__add__", "__radd__", "__sub__", "__rsub__", "__mul__", "__rmul__", "__neg__", "__abs__",
            "__bool__", "__eq__", "__ne__", "__str__", "compared", "read", "pair", "down", "up", "ZERO",
        )
        for name in names:
            self.assertIn(name, vars(Amount))


if __name__ == "__main__":
    unittest.main()
