"""Many runs of a work at once, a bit of each number for each of them."""

from lampforge.beats import run_by
from lampforge.words import two_to


def run_many(work, many, beats):
    """What a work tells in so many runs at once, beat by beat."""
    return run_by(work, beats, two_to(many) - 1)
