"""Sums of readings of a line, worked out without going through its cycles."""


def floor_sum(many, unit, slope, value):
    """The sum of (value + slope * x) // unit over all x from 0 to many - 1, for a unit >= 1."""
    total = 0
    while many > 0:
        total += many * (many - 1) // 2 * (slope // unit) + many * (value // unit)
        slope = slope % unit
        value = value % unit
        # What is left counts lattice points under a line that is flatter than
        # one; seen from the other axis it is a line with fewer places.
        most = slope * many + value
        many = most // unit
        value = most % unit
        slope, unit = unit, slope
    return total
