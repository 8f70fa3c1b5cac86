"""Crowds of bags, and which rows can be of a net or of a crowd."""

from facecounts.chosen import GREATEST_NUMBER, bags_above, most_above
from facecounts.errors import NoCrowd
from facecounts.kinds import is_rising, is_whole_within
from facecounts.rows import check_row

GREATEST_IN_BAG = 15
GREATEST_BAG = 6
MOST_BAGS = 200


def is_crowd(thing):
    """Tell whether a thing is a crowd."""
    if not isinstance(thing, tuple) or not 1 <= len(thing) <= MOST_BAGS:
        return False
    if not all([is_bag(part) for part in thing]):
        return False
    return is_rising(thing) and lacks_none(thing)


def crowd_counts(crowd):
    """Tell how many bags of each size the crowd has, from 0 to the greatest size."""
    if not is_crowd(crowd):
        raise NoCrowd("a crowd is due")
    many = [0] * (max([len(bag) for bag in crowd]) + 1)
    for bag in crowd:
        many[len(bag)] += 1
    return tuple(many)


def not_of_net(row):
    """Tell the first place at which the row can't be of a net, or None."""
    check_row(row)
    return first_beyond(row, most_above)


def not_of_crowd(row):
    """Tell the first place at which the row can't be of a crowd, or None."""
    check_row(row)
    return first_beyond(row, bags_above)


def is_bag(thing):
    """Tell whether a thing is a bag."""
    if not isinstance(thing, tuple) or len(thing) > GREATEST_BAG:
        return False
    if not all([is_whole_within(part, 0, GREATEST_IN_BAG) for part in thing]):
        return False
    return all([number <= behind for number, behind in zip(thing, thing[1:])])


def lacks_none(bags):
    """Tell whether each of the bags, with any one number left out, is one of them too."""
    known = set(bags)
    for bag in bags:
        for place in range(len(bag)):
            if bag[:place] + bag[place + 1:] not in known:
                return False
    return True


def first_beyond(row, above):
    """Tell the first place of the row whose number is beyond what may stand above the one ahead, or None."""
    if row[0] != 1:
        return 0
    for place in range(1, len(row)):
        if not 0 <= row[place] <= GREATEST_NUMBER:
            return place
        if place > 1 and row[place] > above(row[place - 1], place - 1):
            return place
    return None
