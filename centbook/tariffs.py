"""Tariffs, which make charges of quantities.

Each class passes the arguments that it does not know on to the classes that come
after it in the method resolution order, whichever these are; so do the steps.
"""

from centbook.amounts import Amount


class Tariff:
    """Charges the price for the quantity as it is."""

    def __init__(self, *, price):
        self.price = price

    def counted(self, quantity):
        """The counted quantity, an Amount."""
        over, under = quantity
        return Amount(over, under)

    def charged(self, quantity):
        """The charge, an Amount; classes below add to it."""
        over, under = self.price
        return self.counted(quantity) * Amount(over, under)

    def __call__(self, quantity):
        return self.charged(quantity)


class Started(Tariff):
    """Rounds the counted quantity up."""

    def counted(self, quantity):
        """The quantity as counted by the classes behind this one, rounded up."""
        return Amount(super().counted(quantity).up)


class Free(Tariff):
    """Takes free off the counted quantity."""

    def __init__(self, *, free, **more):
        super().__init__(**more)
        self.free = free

    def counted(self, quantity):
        """The quantity as counted by the classes behind this one, less free, but at least zero."""
        over, under = self.free
        rest = super().counted(quantity) - Amount(over, under)
        return Amount(0) if rest.compared(0) < 0 else rest


class Basic(Tariff):
    """Adds basic to the charge."""

    def __init__(self, *, basic, **more):
        super().__init__(**more)
        self.basic = basic

    def charged(self, quantity):
        """The charge of the classes behind this one, and basic."""
        over, under = self.basic
        return super().charged(quantity) + Amount(over, under)


class FreeStarted(Free, Started):
    """Rounds up first, and then takes free off."""


class StartedFree(Started, Free):
    """Takes free off first, and then rounds up."""


class BasicFree(Basic, Free):
    """Takes free off, and adds basic to the charge."""


class BasicStarted(Basic, Started):
    """Rounds up, and adds basic to the charge."""


def charges_of(tariffs, *quantities):
    """The charges of some tariffs for as many quantities, as fractions."""
    return tuple([tariff(quantity).pair for tariff, quantity in zip(tariffs, quantities)])
