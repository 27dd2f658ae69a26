"""Standings as texts, and the standings that texts write."""

from courtscore.errors import NoText
from courtscore.standings import is_reached, refuse_unreached

FIGURES = "0123456789"
MOST_FIGURES = 9
BLOCK = 1000000000
BLOCK_FIGURES = 9


def shown(rules, standing):
    refuse_unreached(rules, standing)
    return " ".join([pair_shown(pair) for pair in standing])


def read(rules, text):
    pairs = text.split(" ")
    if len(pairs) != 3:
        raise NoText("a standing is written as three pairs with a blank between")
    standing = (pair_read(pairs[0]), pair_read(pairs[1]), pair_read(pairs[2]))
    if not is_reached(rules, standing):
        raise NoText("no row of points leads to what is written")
    return standing


def pair_shown(pair):
    return ":".join([number_shown(number) for number in pair])


def number_shown(number):
    # Python writes no number of some thousand figures at once, so great ones are written block by block.
    blocks = []
    while number >= BLOCK:
        blocks.append(str(number % BLOCK).zfill(BLOCK_FIGURES))
        number = number // BLOCK
    blocks.append(str(number))
    blocks.reverse()
    return "".join(blocks)


def pair_read(text):
    numbers = text.split(":")
    if len(numbers) != 2:
        raise NoText("a pair is written as two numbers with a colon between")
    return (number_read(numbers[0]), number_read(numbers[1]))


def number_read(text):
    if len(text) < 1 or len(text) > MOST_FIGURES:
        raise NoText("a number is written by one to nine figures")
    if not all([sign in FIGURES for sign in text]):
        raise NoText("a number is written by figures alone")
    if text[0] == "0" and len(text) > 1:
        raise NoText("a number is written without a needless nought")
    return int(text)
