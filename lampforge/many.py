"""Many runs of a work at once, a bit of each number for each of them."""

from lampforge.beats import run_by
from lampforge.words import two_to


def run_many(work, many, beats):
    """What a work tells in so many runs at once, beat by beat."""
    return run_by(work, beats, two_to(many) - 1)


def all_stands(many):
    """Numbers for so many ends, of which the bits at one place are one of their stands, and the high number.

    In stand s the end k has the bit of s that is worth 2 ** k; the high number has a bit of 1 for each.
    """
    numbers = []
    high = 1
    # Each further end doubles the stands: those so far with its bit 0, then again with its bit 1.
    beyond = 2
    for place in range(many):
        numbers = [number * (beyond + 1) for number in numbers]
        numbers.append(high * beyond)
        high = high * (beyond + 1)
        beyond = beyond * beyond
    return (numbers, high)
