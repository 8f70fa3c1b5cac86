"""Rows that closed nets are made with, and a closed net for each."""

from facecounts.chosen import bags_above
from facecounts.closed import border
from facecounts.crowds import not_of_crowd
from facecounts.errors import NoNumber, NoWay, TooMany
from facecounts.firsts import first_crowd
from facecounts.kinds import is_whole_within
from facecounts.nets import GREATEST_POINT, MOST_SIDES
from facecounts.rows import by_steps, first_uneven, growth, half_size, is_row, turned

LEAST_TOLD_WIDTH = 2
GREATEST_TOLD_WIDTH = 7
MOST_MORE_POINTS = 4
GREATEST_MADE_WIDTH = 5


def barred(row):
    """Tell what bars the row from being closed, and its first place, or None."""
    uneven = first_uneven(row)
    if uneven is not None:
        return ("uneven", uneven)
    place = not_of_crowd(growth(turned(row)))
    return None if place is None else ("steps", place)


def least_row(width, points):
    """Tell the row of this width and so many points that can be closed and whose steps are least."""
    told = first_steps(width, points)
    return by_steps(width, told + (0,) * (half_size(width) - len(told)))


def greatest_row(width, points):
    """Tell the row of this width and so many points that can be closed and whose steps are greatest."""
    told = first_steps(width, points)
    for size in range(1, half_size(width) - 1):
        told = told + (bags_above(told[size], size),)
    return by_steps(width, told)


def all_rows(width, points):
    """Tell the rising list of all rows of this width and so many points that can be closed."""
    some = [first_steps(width, points)]
    for size in range(1, half_size(width) - 1):
        some = [told + (more,) for told in some for more in range(bags_above(told[size], size) + 1)]
    return sorted([by_steps(width, told) for told in some])


def filling(width, steps):
    """Tell the net of a side for each bag of the first crowd of the steps."""
    check_made(width, steps)
    return tuple(sorted([side_of(width, bag) for bag in first_crowd(steps)]))


def made(width, steps):
    """Tell the closed net of this width whose counts have these steps."""
    return border(filling(width, steps))


def first_steps(width, points):
    """Tell the first two steps of the rows of this width and so many points; refuse what are none."""
    if not is_whole_within(width, LEAST_TOLD_WIDTH, GREATEST_TOLD_WIDTH):
        raise NoNumber("a width from 2 to 7 is due")
    if not is_whole_within(points, width + 1, width + MOST_MORE_POINTS):
        raise NoNumber("a number of points from one to four more than the width is due")
    return (1, points - width - 1)


def check_made(width, steps):
    """Refuse what is no width, then what are no steps of it, then steps of too great a net."""
    if not is_whole_within(width, 1, GREATEST_MADE_WIDTH):
        raise NoNumber("a width from 1 to 5 is due")
    if not is_row(steps) or len(steps) != half_size(width) or not_of_crowd(steps) is not None:
        raise NoWay("no closed net of this width has such steps")
    # What the nets would have is told by their counts, so that great ones needn't be made.
    row = by_steps(width, steps)
    if sum(steps) > MOST_SIDES:
        raise TooMany("the filling would have more than sixty sides")
    if row[1] > GREATEST_POINT + 1:
        raise TooMany("the filling would have a point above 15")
    if row[width] > MOST_SIDES:
        raise TooMany("the border would have more than sixty sides")


def side_of(width, bag):
    """Tell the side that is made of the bag."""
    pairs = (width + 1) // 2
    lone = (width + 1) % 2
    moved = (0,) * (pairs - len(bag)) + tuple([number + 1 for number in bag])
    side = [0] * lone
    for at, more in enumerate(moved):
        lesser = 2 * at + lone + more
        side += [lesser, lesser + 1]
    return tuple(side)
