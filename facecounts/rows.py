"""Rows of numbers, turned and turned back; even rows, and what tells them."""

from facecounts.chosen import ways
from facecounts.errors import NoNumber, NoRow
from facecounts.kinds import is_whole_tuple, is_whole_within

GREATEST_WIDTH = 11


def is_row(thing):
    """Tell whether a thing is a row."""
    return is_whole_tuple(thing) and 1 <= len(thing) <= GREATEST_WIDTH + 1


def turned(row):
    """Tell the turned row of the row."""
    check_row(row)
    return tuple([in_turns(parts_at(row, place)) for place in range(len(row))])


def turned_back(row):
    """Tell the row whose turned row is this one."""
    check_row(row)
    return tuple([sum(parts_at(row, place)) for place in range(len(row))])


def is_even(row):
    """Tell whether the turned row of the row is the same from behind."""
    return first_uneven(row) is None


def first_uneven(row):
    """Tell the first place at which the turned row isn't the same from behind, or None."""
    there = turned(row)
    for place, (number, behind) in enumerate(zip(there, there[::-1])):
        if number != behind:
            return place
    return None


def steps(row):
    """Tell by how much the turned row grows at each place up to half of its width."""
    return growth(turned(row))


def by_steps(width, numbers):
    """Tell the even row of this width whose steps are these numbers."""
    check_half(width, numbers)
    half = []
    reached = 0
    for number in numbers:
        reached += number
        half.append(reached)
    return turned_back(mirrored(width, tuple(half)))


def by_half(width, numbers):
    """Tell the even row of this width whose first numbers are these."""
    check_half(width, numbers)
    # What stands behind doesn't bear on the first numbers of a turned row.
    filled = numbers + (0,) * (width + 1 - len(numbers))
    return turned_back(mirrored(width, turned(filled)[:len(numbers)]))


def check_row(thing):
    """Refuse what is no row."""
    if not is_row(thing):
        raise NoRow("a row is due")


def check_half(width, numbers):
    """Refuse what is no width, then what are not so many numbers as half of it asks for."""
    if not is_whole_within(width, 0, GREATEST_WIDTH):
        raise NoNumber("a width from 0 to 11 is due")
    if not is_whole_tuple(numbers) or len(numbers) != half_size(width):
        raise NoRow("a tuple of one more whole numbers than half of the width is due")


def growth(there):
    """Tell the first number of a turned row, and by how much it grows at each place up to half of its width."""
    half = there[:half_size(len(there) - 1)]
    return half[:1] + tuple([number - ahead for ahead, number in zip(half, half[1:])])


def half_size(width):
    """Tell how many places of a row of this width tell all of it where it is even."""
    return width // 2 + 1


def parts_at(row, place):
    """Tell each number up to the place, so many times as there are ways from its own place."""
    width = len(row) - 1
    return [row[ahead] * ways(width - ahead, place - ahead) for ahead in range(place + 1)]


def in_turns(parts):
    """Tell the sum of the last part less the one ahead, and so on in turns."""
    return sum(parts[::-2]) - sum(parts[-2::-2])


def mirrored(width, half):
    """Tell the row of this width that begins with the half and is the same from behind."""
    return half + half[:width + 1 - len(half)][::-1]
