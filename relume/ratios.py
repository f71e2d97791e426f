"""Fractions: tuples (top, low) in lowest terms with low at least 1."""

from math import gcd, lcm


def ratio(top, low):
    """Return the fraction of this value; low is above 0."""
    common = gcd(top, low)
    return (top // common, low // common)


def is_ratio(pair):
    """Tell whether the tuple of two integers is a fraction, and so in lowest terms."""
    top, low = pair
    return low >= 1 and gcd(top, low) == 1


def on_one_low(ratios):
    """Return the tops that the fractions have above one common low, and this low."""
    common = 1
    for _, low in ratios:
        common = lcm(common, low)
    return [top * (common // low) for top, low in ratios], common
