"""Fractions in lowest terms, and the parts: fractions from nought to one."""

from courtscore.errors import BadPart


def common_divisor(one, other):
    while other != 0:
        left = one % other
        one = other
        other = left
    return abs(one)


def common_multiple(one, other):
    return one // common_divisor(one, other) * other


def fraction(top, bottom):
    divisor = common_divisor(top, bottom)
    # The sign belongs to the top, so a bottom below nought turns both.
    if bottom < 0:
        divisor = -divisor
    return (top // divisor, bottom // divisor)


def refuse_bad_part(part):
    # The part itself is left out of the words: Python writes no number of some thousand figures.
    if part[0] < 0 or part[0] > part[1]:
        raise BadPart("a part lies from nought to one")
