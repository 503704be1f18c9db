"""Exact amounts of cents."""

from centbook.errors import InvalidAmount
from centbook.kinds import is_integer
from centbook.pairs import lowest, rounded_down, rounded_up
from centbook.sheetreadings import fraction_read
from centbook.sheettexts import fraction_text


class Amount:
    """The fraction over / under of cents; an Amount never changes."""

    ZERO = (0, 1)

    def __init__(self, over, under=1):
        if not is_integer(over):
            raise InvalidAmount(over)
        if not is_integer(under) or under == 0:
            raise InvalidAmount(under)
        self.over, self.under = lowest(over, under)

    @staticmethod
    def read(text):
        """The Amount that a string writes."""
        over, under = fraction_read(text)
        return Amount(over, under)

    @property
    def pair(self):
        """The fraction."""
        return self.over, self.under

    @property
    def down(self):
        """The greatest integer that is at most the amount."""
        return rounded_down((self.over, self.under))

    @property
    def up(self):
        """The least integer that is at least the amount."""
        return rounded_up((self.over, self.under))

    def compared(self, other):
        """-1, 0 or 1 if the amount is less than, equal to or greater than other."""
        over, under = parts_of(other)
        left = self.over * under
        right = over * self.under
        if left < right:
            return -1
        return 1 if left > right else 0

    def __add__(self, other):
        over, under = parts_of(other)
        return Amount(self.over * under + over * self.under, self.under * under)

    def __radd__(self, other):
        return self + other

    def __sub__(self, other):
        over, under = parts_of(other)
        return Amount(self.over * under - over * self.under, self.under * under)

    def __rsub__(self, other):
        over, under = parts_of(other)
        return Amount(over * self.under - self.over * under, self.under * under)

    def __mul__(self, other):
        over, under = parts_of(other)
        return Amount(self.over * over, self.under * under)

    def __rmul__(self, other):
        return self * other

    def __neg__(self):
        return Amount(-self.over, self.under)

    def __abs__(self):
        return Amount(abs(self.over), self.under)

    def __bool__(self):
        return bool(self.over)

    def __eq__(self, other):
        return isinstance(other, Amount) and self.over == other.over and self.under == other.under

    def __ne__(self, other):
        return not self == other

    def __str__(self):
        return str(fraction_text((self.over, self.under)))


def parts_of(value):
    """(over, under) of an Amount or of an integer in the place of one."""
    if isinstance(value, Amount):
        return value.over, value.under
    if not is_integer(value):
        raise InvalidAmount(value)
    return value, 1
