"""Works run beat by beat."""


def first_stand(work):
    """The stand at the first beat."""
    return [first for first, end in work[1]]


def bits_of_ends(work, stand, row, high):
    """The bits of all ends of a work, one run or many in one number; `high` has a bit of 1 for each run."""
    bits = [0, high]
    for number in row:
        bits.append(number)
        bits.append(high ^ number)
    for number in stand:
        bits.append(number)
        bits.append(high ^ number)
    for one, other in work[2]:
        number = bits[one] & bits[other]
        bits.append(number)
        bits.append(high ^ number)
    return bits


def beat_by(work, stand, row, high):
    """What is told and the next stand, of one run or many in one number."""
    bits = bits_of_ends(work, stand, row, high)
    return ([bits[end] for end in work[3]], [bits[end] for first, end in work[1]])


def run_by(work, beats, high):
    """What is told beat by beat, of one run or many in one number."""
    stand = [first * high for first in first_stand(work)]
    told = []
    for row in beats:
        both = beat_by(work, stand, row, high)
        told.append(both[0])
        stand = both[1]
    return told


def beat(work, stand, row):
    """What a work tells at a stand and a beat, and the next stand."""
    return beat_by(work, stand, row, 1)


def run(work, beats):
    """What a work tells, beat by beat."""
    return run_by(work, beats, 1)
