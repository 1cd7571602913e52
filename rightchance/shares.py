"""Shares and chances: exact fractions that are not below 0, as pairs (n, d) in lowest terms."""

from math import gcd

from rightchance.errors import NoShare

ZERO = (0, 1)
ONE = (1, 1)


def make_share(n, d):
    """Return the share n / d."""
    if d == 0:
        raise NoShare("the denominator is 0")
    if d < 0:
        n, d = -n, -d
    if n < 0:
        raise NoShare("the fraction is below 0")
    common = gcd(n, d)
    return (n // common, d // common)


def is_share(pair):
    """Tell if a pair of integers is a share."""
    n, d = pair
    return n >= 0 and d >= 1 and gcd(n, d) == 1


def is_chance(pair):
    """Tell if a pair of integers is a share of at most 1."""
    n, d = pair
    return is_share(pair) and n <= d


def plus(share, other):
    """Return the sum of two shares."""
    n, d = share
    m, e = other
    return make_share(n * e + m * d, d * e)


def times(share, other):
    """Return the product of two shares."""
    n, d = share
    m, e = other
    # The pairs are in lowest terms, so what the product has in common crosses over. These divisors are found
    # much faster than that of the whole product, where a long share meets a short one.
    left, right = gcd(n, e), gcd(m, d)
    return ((n // left) * (m // right), (d // right) * (e // left))


def compare_shares(share, other):
    """Return -1, 0 or 1, as the first share is less than, equal to or greater than the other one."""
    n, d = share
    m, e = other
    # Denominators are above 0, so multiplying by both of them keeps the order.
    if n * e < m * d:
        return -1
    if n * e > m * d:
        return 1
    return 0


def rest_of(chance):
    """Return 1 minus the chance."""
    n, d = chance
    # A common divisor of d - n and d would divide n, too, so these are lowest terms.
    return (d - n, d)


def product_of(shares):
    """Return the product of a list of shares."""
    product_so_far = ONE
    for share in shares:
        product_so_far = times(product_so_far, share)
    return product_so_far


def any_of(chances):
    """Return the chance that at least one of several independent things with these chances happens."""
    return rest_of(product_of([rest_of(chance) for chance in chances]))
