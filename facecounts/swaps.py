"""Swaps of closed nets, face by face, and what they do to the counts."""

from facecounts.chosen import ways
from facecounts.closed import check_closed
from facecounts.errors import NoNumber, NoSwap, TooMany
from facecounts.kinds import is_whole_within
from facecounts.nets import (
    GREATEST_POINT, MOST_SIDES, all_faces, has_face, is_any_face, left_of, lies_in, points_of, ring_of, width_of,
)

GREATEST_CHANGED_WIDTH = 5


def swaps(net):
    """Tell the rising list of all swaps of the closed net."""
    check_closed(net)
    found = []
    # These rise already, and none of them goes out twice.
    for out in all_faces(net):
        into = into_of(net, out)
        if into is not None:
            found.append((out, into))
    return found


def is_swap(net, thing):
    """Tell whether a thing is a swap of the closed net."""
    check_closed(net)
    return has_swap(net, thing)


def swapped(net, swap):
    """Tell the closed net swapped."""
    check_closed(net)
    return exchanged(net, swap)


def change_by(width, size):
    """Tell what comes to each count of a net of this width by a swap whose into has this size."""
    if not is_whole_within(width, 1, GREATEST_CHANGED_WIDTH):
        raise NoNumber("a width from 1 to 5 is due")
    if not is_whole_within(size, 1, width):
        raise NoNumber("a size from 1 to the width is due")
    other = width + 1 - size
    return tuple([faces_over(size, other, at) - faces_over(other, size, at) for at in range(width + 1)])


def exchanged(net, swap):
    """Tell what is known to be a closed net swapped; refuse what is no swap of it, then too many sides."""
    if not has_swap(net, swap):
        raise NoSwap("a swap of the net is due")
    out, into = swap
    kept = [side for side in net if not lies_in(out, side)]
    come = [tuple(sorted(into + left_of(out, (point,)))) for point in out]
    if len(kept) + len(come) > MOST_SIDES:
        raise TooMany("the net would have more than sixty sides")
    return tuple(sorted(kept + come))


def has_swap(net, thing):
    """Tell whether a thing is a swap of what is known to be a closed net."""
    if not isinstance(thing, tuple) or len(thing) != 2:
        return False
    out, into = thing
    return is_any_face(into) and has_face(net, out) and into_of(net, out) == into


def into_of(net, out):
    """Tell what comes where the face goes out of the closed net, or None where it can't go out."""
    if out == ():
        return None
    if out in net:
        return free_point(net)
    inner = ring_of(net, out)
    into = tuple(points_of(inner))
    size = width_of(net) + 1 - len(out)
    # All sides of the ring have one point less than into, so as many as it has points are all there are.
    if len(into) != size or len(inner) != size or has_face(net, into):
        return None
    return into


def free_point(net):
    """Tell the face of the least number that is no point of the net, or None where all are."""
    points = points_of(net)
    for point in range(GREATEST_POINT + 1):
        if point not in points:
            return (point,)
    return None


def faces_over(size, other, at):
    """Tell how many faces of the size at hold a face of this size and some, not all, of the other one's points."""
    return ways(other, at - size) if at >= size else 0
