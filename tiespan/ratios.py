"""Fractions: pairs (numerator, denominator) of integers in lowest terms with a denominator of at least 1.

Comparing works for pairs that are not in lowest terms as well, as long as their denominators are at least 1.
"""

from tiespan.errors import InvalidRatio, ParseError

ZERO = (0, 1)
# From how many bits on integers are long; with how many leading bits they are shortened, and down to how many.
LONG = 4096
LEADING = 256
HALF = 128


def is_whole(thing):
    """Returns whether a value is an integer and no boolean."""
    return isinstance(thing, int) and not isinstance(thing, bool)


def shortened(one, other):
    """Returns two smaller integers with the same greatest common divisor as two long ones, the greater one first.

    Steps of Euclid are worked out for the leading bits alone, and all of them are then done at once: this is much
    faster for long integers, and it changes no divisor, even where the steps for all bits would be others.
    """
    shift = one.bit_length() - LEADING
    high, low = one >> shift, other >> shift
    a, b, c, d = 1, 0, 0, 1
    while low >> HALF > 0:
        times, rest = divmod(high, low)
        if rest >> HALF == 0:
            break
        high, low = low, rest
        a, b, c, d = c, d, a - times * c, b - times * d
    if b == 0:
        return other, one % other
    first, second = abs(a * one + b * other), abs(c * one + d * other)
    return (first, second) if first >= second else (second, first)


def common_divisor(one, other):
    """Returns the greatest common divisor of two integers."""
    one = abs(one)
    other = abs(other)
    if one < other:
        one, other = other, one
    while other.bit_length() > LONG:
        one, other = shortened(one, other)
    while other > 0:
        one, other = other, one % other
    return one


def ratio(top, under=1):
    """Returns the fraction of two integers."""
    if under == 0:
        raise InvalidRatio(0)
    shared = common_divisor(top, under)
    if under < 0:
        shared = -shared
    return (top // shared, under // shared)


def is_ratio(thing):
    """Returns whether a value is a fraction."""
    if not isinstance(thing, tuple) or len(thing) != 2:
        return False
    top, under = thing
    return is_whole(top) and is_whole(under) and under >= 1 and common_divisor(top, under) == 1


def add(one, other):
    """Returns the sum of two fractions."""
    return ratio(one[0] * other[1] + other[0] * one[1], one[1] * other[1])


def subtract(one, other):
    """Returns the first fraction less the second one."""
    return ratio(one[0] * other[1] - other[0] * one[1], one[1] * other[1])


def multiply(one, other):
    """Returns the product of two fractions."""
    return ratio(one[0] * other[0], one[1] * other[1])


def divide(one, other):
    """Returns the first fraction divided by the second one."""
    return ratio(one[0] * other[1], one[1] * other[0])


def is_less(one, other):
    """Returns whether the first fraction is less than the second one."""
    return one[0] * other[1] < other[0] * one[1]


def least(*values):
    """Returns the least one of fractions, of which None is left out, or None if there is none."""
    found = None
    for value in values:
        if value is not None and (found is None or is_less(value, found)):
            found = value
    return found


def greatest(*values):
    """Returns the greatest one of fractions, of which None is left out, or None if there is none."""
    found = None
    for value in values:
        if value is not None and (found is None or is_less(found, value)):
            found = value
    return found


def is_digits(text):
    """Returns whether a string consists of one or more digits."""
    return text.isascii() and text.isdigit()


def number_text(number):
    """Returns the text of an integer; in blocks, because Python refuses to write many digits at once."""
    rest = abs(number)
    blocks = []
    while rest >= 10 ** 64:
        rest, block = divmod(rest, 10 ** 64)
        blocks.append(str(block).zfill(64))
    blocks.append(str(rest))
    if number < 0:
        blocks.append("-")
    return "".join(blocks[::-1])


def number_of(digits):
    """Returns the integer of a run of digits; in blocks, because Python refuses to read many digits at once."""
    start = len(digits) % 64
    number = int("0" + digits[:start])
    for at in range(start, len(digits), 64):
        number = number * 10 ** 64 + int(digits[at:at + 64])
    return number


def ratio_text(one):
    """Returns the text of a fraction."""
    if one[1] == 1:
        return number_text(one[0])
    return number_text(one[0]) + "/" + number_text(one[1])


def ratio_of(text):
    """Returns the fraction with a text, or None if it is not the text of a fraction."""
    top, slash, under = text.removeprefix("-").partition("/")
    if not is_digits(top) or (slash != "" and not is_digits(under)):
        return None
    number = -number_of(top) if text.startswith("-") else number_of(top)
    divisor = 1 if slash == "" else number_of(under)
    if divisor == 0:
        return None
    found = ratio(number, divisor)
    # Each fraction has exactly one text, so a text that is not written again is not valid.
    return found if ratio_text(found) == text else None


def read_ratio(text):
    """Returns the fraction with a text, of any number of digits."""
    found = ratio_of(text)
    if found is None:
        raise ParseError(0)
    return found
