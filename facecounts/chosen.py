"""In how many ways things are chosen, and numbers written as sums of such ways."""

from facecounts.errors import NoNumber
from facecounts.kinds import is_whole_tuple, is_whole_within

GREATEST_NUMBER = 1_000_000_000_000
MOST_CHOSEN = 12


def choose(things, number):
    """Tell in how many ways so many of the things are chosen."""
    if not is_whole_within(things, 0, GREATEST_NUMBER):
        raise NoNumber("a number of things from 0 to 10 ** 12 is due")
    if not is_whole_within(number, 0, MOST_CHOSEN):
        raise NoNumber("a number of chosen things from 0 to 12 is due")
    return ways(things, number)


def writing(number, size):
    """Tell the writing of the number by the size."""
    check_written(number, size)
    told = []
    rest = number
    for chosen in range(size, 0, -1):
        if rest == 0:
            break
        things = most_things(rest, chosen)
        told.append(things)
        rest -= ways(things, chosen)
    return tuple(told)


def is_writing(thing, number, size):
    """Tell whether a thing is the writing of the number by the size."""
    due = writing(number, size)
    # To Python a truth is like 0 or 1, so comparing alone won't do.
    return is_whole_tuple(thing) and thing == due


def most_above(number, size):
    """Tell how many faces there are at most one size above so many of this size."""
    return sum([ways(things, chosen + 1) for things, chosen in written_parts(number, size)])


def least_below(number, size):
    """Tell how many faces there are at least one size below so many of this size."""
    return sum([ways(things, chosen - 1) for things, chosen in written_parts(number, size)])


def bags_above(number, size):
    """Tell how many bags there are at most one size above so many of this size."""
    return sum([ways(things + 1, chosen + 1) for things, chosen in written_parts(number, size)])


def check_written(number, size):
    """Refuse what is no number to be written, then what is no size to write it by."""
    if not is_whole_within(number, 0, GREATEST_NUMBER):
        raise NoNumber("a number from 0 to 10 ** 12 is due")
    if not is_whole_within(size, 1, MOST_CHOSEN):
        raise NoNumber("a size from 1 to 12 is due")


def ways(things, number):
    """Tell in how many ways so many of the things are chosen, beyond all bounds too."""
    told = 1
    for at in range(number):
        # What is told at each step is a number of ways itself, so nothing is cut off.
        told = told * (things - at) // (at + 1)
    return told


def most_things(number, chosen):
    """Tell of how many things at most so many are chosen in no more ways than the number, 1 or more."""
    low = chosen
    # Each thing beyond the chosen ones brings one way or more, so these are too many.
    high = chosen + number
    while high - low > 1:
        middle = (low + high) // 2
        if ways(middle, chosen) <= number:
            low = middle
        else:
            high = middle
    return low


def written_parts(number, size):
    """Tell each number of the writing, with how many are chosen of it."""
    return [(things, size - place) for place, things in enumerate(writing(number, size))]
