"""Two ways to reckon with the numbers that plans give to rows: exactly, and quickly within bounds.

Both have the same methods: start is the number 1, of_chance makes a number of
a chance, of_both multiplies two numbers, and of_any is 1 minus the product of
1 minus each number of a list.
"""

from rightchance.shares import ONE, any_of, times

# Numbers within bounds are counted in parts of which this many make 1: 2 to the power of BITS. There are
# so many because the chances of small stores already have products far below what is shown with 64 bits.
BITS = 1024


class Exact:
    """Reckons with shares."""

    def start(self):
        """Return the number 1."""
        return ONE

    def of_chance(self, chance):
        """Return the number of a chance."""
        return chance

    def of_both(self, number, other):
        """Return the product of two numbers."""
        return times(number, other)

    def of_any(self, numbers):
        """Return 1 minus the product of 1 minus each of the numbers."""
        return any_of(numbers)


class Bounded:
    """Reckons with pairs (low, high) of integers: the number is from low to high parts, as BITS says it.

    The pairs stay short, while the shares that plans give to rows may have as
    many digits as all facts have in all rows.
    """

    def start(self):
        """Return the number 1."""
        return (1 << BITS, 1 << BITS)

    def of_chance(self, chance):
        """Return the number of a chance."""
        n, d = chance
        return ((n << BITS) // d, -((-n << BITS) // d))

    def of_both(self, number, other):
        """Return the product of two numbers."""
        return (number[0] * other[0] >> BITS, shifted_up(number[1] * other[1]))

    def of_any(self, numbers):
        """Return 1 minus the product of 1 minus each of the numbers."""
        whole = 1 << BITS
        low_rest = high_rest = whole
        for low, high in numbers:
            low_rest = low_rest * (whole - high) >> BITS
            high_rest = shifted_up(high_rest * (whole - low))
        return (whole - high_rest, whole - low_rest)


def shifted_up(number):
    """Return the number divided by 2 to the power of BITS, rounded up."""
    return -(-number >> BITS)
