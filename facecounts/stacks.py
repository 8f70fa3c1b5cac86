"""Stacked nets: a point put on one side after the other."""

from facecounts.closed import border
from facecounts.errors import NoNumber, NoPlaces
from facecounts.kinds import is_whole_tuple, is_whole_within
from facecounts.swaps import exchanged, free_point

GREATEST_STACKED_WIDTH = 5
MOST_PLACES = 10


def stacked(width, places):
    """Tell the border of one side, with a point put on the side at each of the places in order."""
    if not is_whole_within(width, 1, GREATEST_STACKED_WIDTH):
        raise NoNumber("a width from 1 to 5 is due")
    if not is_whole_tuple(places) or len(places) > MOST_PLACES:
        raise NoPlaces("a tuple of at most ten whole numbers is due")
    net = border((tuple(range(width + 1)),))
    for place in places:
        net = with_point_on(net, place)
    return net


def with_point_on(net, place):
    """Tell the closed net with a point put on its side at the place."""
    if not 0 <= place < len(net):
        raise NoPlaces("a place of a side is due")
    return exchanged(net, (net[place], free_point(net)))
