"""Rows of integers as the digits of one long integer: a product then moves and adds whole rows at once."""


def digit_width(most):
    """Return the number of hexadecimal places that digits up to an integer need."""
    return len(f"{most:x}")


def packed(row, width):
    """Return the integer whose digits, of so many places each, are the items of a row, the first one lowest."""
    digits = [f"{item:x}".zfill(width) for item in reversed(row)]
    return int("0" + "".join(digits), 16)


def unpacked(number, width, first, many):
    """Return a row of so many digits of an integer, from the index first on."""
    text = f"{number:x}".zfill(width * (first + many))
    end = len(text) - width * first
    return [int(text[at - width:at], 16) for at in range(end, end - width * many, -width)]


class Slide:
    """A change, as a factor for packed rows of as many items as there are reserves to look at."""

    def __init__(self, change, size, width):
        parts = [(value, top) for value, top in change.parts if -size < value < size]
        self.size = size
        self.width = width
        self.reach = max([0] + [value for value, _ in parts])
        tops = dict(parts)
        least = min([0] + [value for value, _ in parts])
        self.factor = packed([tops.get(value, 0) for value in range(self.reach, least - 1, -1)], width)

    def sums(self, number):
        """Return for each reserve the sum of the tops of the change times the items to which they lead.

        The number packs the row of the items; the sums must not need more places than the width.
        """
        return unpacked(number * self.factor, self.width, self.reach, self.size)
