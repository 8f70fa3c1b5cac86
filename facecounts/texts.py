"""Nets as they are written, and read."""

from facecounts.errors import NoText
from facecounts.nets import GREATEST_POINT, check_net, is_net

NO_POINTS = "-"


def written(net):
    """Tell the text of the net."""
    check_net(net)
    return " ".join([written_side(side) for side in net])


def read(text):
    """Tell the net that is written as this text."""
    if not isinstance(text, str):
        raise NoText("a text is due")
    net = tuple([read_side(word) for word in text.split(" ")])
    if not is_net(net):
        raise NoText("the text of a net is due")
    return net


def written_side(side):
    """Tell the text of one side."""
    if side == ():
        return NO_POINTS
    return ",".join([str(point) for point in side])


def read_side(word):
    """Tell the side that is written as this word."""
    if word == NO_POINTS:
        return ()
    return tuple([read_point(figures) for figures in word.split(",")])


def read_point(figures):
    """Tell the point that is written in these figures."""
    # Compared with each point as it is written, since int() also reads
    # signs, noughts ahead and blanks.
    for point in range(GREATEST_POINT + 1):
        if str(point) == figures:
            return point
    raise NoText("a point from 0 to 15 in figures is due")
