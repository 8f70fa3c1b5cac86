"""The first net and the first crowd of a row."""

from facecounts.chosen import least_below, most_things, ways
from facecounts.crowds import GREATEST_BAG, GREATEST_IN_BAG, MOST_BAGS, not_of_crowd, not_of_net
from facecounts.errors import NoWay, TooMany
from facecounts.nets import GREATEST_POINT, GREATEST_SIZE, MOST_SIDES


def first_net(row):
    """Tell the net that has as many faces of each size as the row tells, the first ones from behind."""
    if not_of_net(row) is not None:
        raise NoWay("no net has such counts")
    check_bounds(row, GREATEST_POINT, GREATEST_SIZE)
    covered = covered_faces(row)
    if sum(row) - sum(covered) > MOST_SIDES:
        raise TooMany("the net would have more than sixty sides")
    # The faces that lie in greater ones are the first of their size, so the sides are the rest.
    sides = [face_at(place, size) for size, many in enumerate(row) for place in range(covered[size], many)]
    return tuple(sorted(sides))


def first_crowd(row):
    """Tell the crowd that has as many bags of each size as the row tells, the first ones from behind."""
    if not_of_crowd(row) is not None:
        raise NoWay("no crowd has such counts")
    check_bounds(row, GREATEST_IN_BAG, GREATEST_BAG)
    if sum(row) > MOST_BAGS:
        raise TooMany("the crowd would have more than two hundred bags")
    return tuple(sorted([bag_at(place, size) for size, many in enumerate(row) for place in range(many)]))


def check_bounds(row, greatest, size):
    """Refuse a row that asks for a number greater than the greatest one, or for a tuple of a greater size."""
    # The first ones of all sizes have no other numbers than those of size 1.
    if len(row) > 1 and row[1] > greatest + 1:
        raise TooMany("a number would be greater than it may be")
    if any(row[size + 1:]):
        raise TooMany("a size would be greater than it may be")


def covered_faces(row):
    """Tell for each size how many faces of the row's first net lie in one that is a size greater."""
    return [least_below(many, size) for size, many in enumerate(row) if size > 0] + [0]


def face_at(place, size):
    """Tell the tuple of this size of rising numbers at the place, counted from 0, in order from behind."""
    told = []
    rest = place
    for chosen in range(size, 0, -1):
        # All tuples below a number stand ahead of those that end with it.
        number = most_things(rest, chosen) if rest > 0 else chosen - 1
        told.append(number)
        rest -= ways(number, chosen)
    return tuple(told[::-1])


def bag_at(place, size):
    """Tell the bag of this size at the place, counted from 0, in order from behind."""
    # Bags become rising tuples, in the same order, when each number grows by its own place.
    return tuple([number - at for at, number in enumerate(face_at(place, size))])
