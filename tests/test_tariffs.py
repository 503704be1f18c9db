"""[16], [17]: tariffs."""

import math
import unittest
from fractions import Fraction

from centbook import tariffs
from centbook.amounts import Amount
from centbook.tariffs import charges_of
from tests.samples import fraction_pair

ARGUMENTS = {
    "Tariff": ("price",), "Started": ("price",), "Free": ("free", "price"), "Basic": ("basic", "price"),
    "FreeStarted": ("free", "price"), "StartedFree": ("free", "price"), "BasicFree": ("basic", "free", "price"),
    "BasicStarted": ("basic", "price"),
}
BASES = {
    "Started": ("Tariff",), "Free": ("Tariff",), "Basic": ("Tariff",), "FreeStarted": ("Free", "Started"),
    "StartedFree": ("Started", "Free"), "BasicFree": ("Basic", "Free"), "BasicStarted": ("Basic", "Started"),
}
FREES = tuple(Fraction(k, 4) for k in (0, 1, 2, 4, 5, 8, 10))
QUANTITIES = tuple(Fraction(k, 6) for k in range(0, 25)) + (Fraction(5, 4), Fraction(9, 4), Fraction(5, 2), Fraction(10 ** 6 + 1, 7))
PRICES = (Fraction(0), Fraction(3), Fraction(1, 2), Fraction(7, 3))


def off(quantity, free):
    return max(quantity - free, Fraction(0))


COUNTED = {
    "Tariff": lambda quantity, free: quantity,
    "Started": lambda quantity, free: Fraction(math.ceil(quantity)),
    "Free": off,
    "Basic": lambda quantity, free: quantity,
    "FreeStarted": lambda quantity, free: off(Fraction(math.ceil(quantity)), free),
    "StartedFree": lambda quantity, free: Fraction(math.ceil(off(quantity, free))),
    "BasicFree": off,
    "BasicStarted": lambda quantity, free: Fraction(math.ceil(quantity)),
}


def made(name, **values):
    """A tariff of a class of this name, with those of the values that it takes."""
    return getattr(tariffs, name)(**{each: fraction_pair(values[each]) for each in ARGUMENTS[name]})


class TariffsTest(unittest.TestCase):
    def test_bases(self):
        for name, bases in BASES.items():
            self.assertEqual(getattr(tariffs, name).__bases__, tuple(getattr(tariffs, base) for base in bases))
        for method in ("__init__", "__call__", "counted"):
            self.assertIn(method, vars(tariffs.Tariff))

    def test_counted_and_charged(self):
        for name, counted in COUNTED.items():
            for free in FREES:
                for price in PRICES:
                    tariff = made(name, price=price, free=free, basic=Fraction(5, 3))
                    basic = Fraction(5, 3) if "Basic" in name else 0
                    for quantity in QUANTITIES:
                        many = counted(quantity, free)
                        found = tariff.counted(fraction_pair(quantity)), tariff(fraction_pair(quantity))
                        self.assertEqual([type(one) for one in found], [Amount, Amount])
                        self.assertEqual(found[0].pair, fraction_pair(many))
                        self.assertEqual(found[1].pair, fraction_pair(price * many + basic))

    def test_basic_of_zero_and_others(self):
        for basic in (0, Fraction(1, 7), 10):
            for name in ("Basic", "BasicFree", "BasicStarted"):
                tariff = made(name, basic=basic, free=1, price=2)
                self.assertEqual(tariff((0, 1)).pair, fraction_pair(basic))
                self.assertEqual(tariff.counted((0, 1)).pair, (0, 1))

    def test_below_at_and_above_free(self):
        for name in ("Free", "FreeStarted", "StartedFree", "BasicFree"):
            tariff = made(name, free=2, price=3, basic=0)
            self.assertEqual([tariff.counted((k, 1)).pair for k in range(5)], [(0, 1), (0, 1), (0, 1), (1, 1), (2, 1)])
        self.assertEqual(made("FreeStarted", free=2, price=1)((9, 4)).pair, (1, 1))
        self.assertEqual(made("StartedFree", free=Fraction(5, 4), price=1)((5, 4)).pair, (0, 1))
        self.assertEqual(made("FreeStarted", free=Fraction(5, 4), price=1)((5, 4)).pair, (3, 4))

    def test_by_name(self):
        tariff = tariffs.Free(price=(2, 1), free=(1, 2))
        self.assertEqual(tariff(quantity=(1, 1)).pair, (1, 1))
        self.assertEqual(tariff.counted(quantity=(1, 1)).pair, (1, 2))

    def test_arguments_by_name_only(self):
        for name, arguments in ARGUMENTS.items():
            one = getattr(tariffs, name)
            self.assertRaises(TypeError, one, *[(1, 1)] * len(arguments))
            self.assertRaises(TypeError, one, (1, 1))
            self.assertRaises(TypeError, one)
            for missing in arguments:
                given = {each: (1, 1) for each in arguments if each != missing}
                self.assertRaises(TypeError, one, **given)
            self.assertRaises(TypeError, one, **{each: (1, 1) for each in arguments}, other=(1, 1))

    def test_attributes(self):
        for name, arguments in ARGUMENTS.items():
            values = {each: (k + 1, 7) for k, each in enumerate(arguments)}
            tariff = getattr(tariffs, name)(**values)
            for each, value in values.items():
                self.assertIs(getattr(tariff, each), value)
            tariff((5, 2))
            self.assertEqual(vars(tariff), values)

    def test_other_orders_of_the_same_steps(self):
        """Each step comes behind those of the classes after it, also in classes that are not listed."""
        class Both(tariffs.Started, tariffs.BasicFree):
            pass

        class Other(tariffs.FreeStarted, tariffs.Basic):
            pass

        values = {"basic": (10, 1), "free": (1, 2), "price": (3, 1)}
        self.assertEqual([one(**values)((5, 4)).pair for one in (Both, Other)], [(13, 1), (29, 2)])

    def test_consequences(self):
        ordered = sorted(QUANTITIES)
        for free in FREES:
            for name in COUNTED:
                tariff = made(name, price=Fraction(3, 7), free=free, basic=2)
                charges = [tariff(fraction_pair(quantity)) for quantity in ordered]
                self.assertTrue(all(one.compared(other) <= 0 for one, other in zip(charges, charges[1:])))
            plain, first, last = (made(name, price=2, free=free) for name in ("Free", "FreeStarted", "StartedFree"))
            for quantity in map(fraction_pair, ordered):
                self.assertTrue(first(quantity).compared(plain(quantity)) >= 0)
                if free.denominator == 1:
                    self.assertEqual(first(quantity), last(quantity))

    def test_charges_of(self):
        one, other = made("Started", price=Fraction(1, 2)), made("BasicFree", basic=10, free=2, price=Fraction(1, 3))
        for kind in (list, tuple):
            self.assertEqual(charges_of(kind()), ())
            self.assertEqual(charges_of(kind([one]), (9, 4)), ((3, 2),))
            self.assertEqual(charges_of(kind([other, one, other]), (3, 1), (9, 4), (0, 1)), ((31, 3), (3, 2), (10, 1)))
        self.assertIs(type(charges_of([one], (1, 1))), tuple)
        self.assertEqual(charges_of(tariffs=[]), ())
        given = [one, other]
        charges_of(given, (1, 1), (1, 1))
        self.assertEqual(given, [one, other])

    def test_examples(self):
        both = (tariffs.FreeStarted, tariffs.StartedFree)
        self.assertEqual([one(free=(1, 2), price=(3, 1))((5, 4)).pair for one in both], [(9, 2), (3, 1)])
        some = [tariffs.Started(price=(1, 2)), tariffs.BasicFree(basic=(10, 1), free=(2, 1), price=(1, 3))]
        self.assertEqual(charges_of(some, (9, 4), (3, 1)), ((3, 2), (31, 3)))


if __name__ == "__main__":
    unittest.main()
