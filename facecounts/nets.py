"""Nets, their faces and counts, and nets made of nets."""

from facecounts.errors import NoFace, NoNet, NoNumber, NoPoint, NotApart, TooMany
from facecounts.kinds import is_rising, is_whole, is_whole_within

GREATEST_POINT = 15
GREATEST_SIZE = 6
MOST_SIDES = 60


def is_net(thing):
    """Tell whether a thing is a net."""
    if not isinstance(thing, tuple) or not 1 <= len(thing) <= MOST_SIDES:
        return False
    if not all([is_any_face(side) for side in thing]):
        return False
    return is_rising(thing) and not is_nested(thing)


def is_face(net, thing):
    """Tell whether a thing is a face of the net."""
    check_net(net)
    return has_face(net, thing)


def faces(net, size):
    """Tell the rising list of the net's faces of this size."""
    check_net(net)
    if not is_whole_within(size, 0, GREATEST_SIZE):
        raise NoNumber("a size from 0 to 6 is due")
    return [face for face in all_faces(net) if len(face) == size]


def counts(net):
    """Tell how many faces of each size the net has, from 0 to its width."""
    check_net(net)
    many = [0] * (width_of(net) + 1)
    for face in all_faces(net):
        many[len(face)] += 1
    return tuple(many)


def tally(net):
    """Tell how many faces of odd sizes there are, less those of even ones."""
    many = counts(net)
    # The even sizes begin at 2, as () isn't among those counted.
    return sum(many[1::2]) - sum(many[2::2])


def ring(net, face):
    """Tell the net of all that makes faces of the net together with the face."""
    check_net(net)
    if not has_face(net, face):
        raise NoFace("a face of the net is due")
    return ring_of(net, face)


def without(net, point):
    """Tell the net of all faces of the net that have not the point."""
    check_net(net)
    if not is_whole(point) or not has_face(net, (point,)):
        raise NoPoint("a point of the net is due")
    return outermost([left_of(side, (point,)) for side in net])


def joined(one, other):
    """Tell the net whose sides are those of the one, each with each of the other."""
    check_net(one)
    check_net(other)
    theirs = points_of(other)
    if any([point in theirs for point in points_of(one)]):
        raise NotApart("two nets without a common point are due")
    if len(one) * len(other) > MOST_SIDES:
        raise TooMany("the net would have more than sixty sides")
    if width_of(one) + width_of(other) > GREATEST_SIZE:
        raise TooMany("a side would have more than six points")
    return tuple(sorted([tuple(sorted(side + more)) for side in one for more in other]))


def check_net(thing):
    """Refuse what is no net."""
    if not is_net(thing):
        raise NoNet("a net is due")


def is_any_face(thing):
    """Tell whether a thing is a face, of whatever net."""
    if not isinstance(thing, tuple) or len(thing) > GREATEST_SIZE:
        return False
    return all([is_whole_within(part, 0, GREATEST_POINT) for part in thing]) and is_rising(thing)


def is_nested(sides):
    """Tell whether one of the sides lies in another one."""
    return any([lies_in_another(side, sides) for side in sides])


def lies_in_another(face, sides):
    """Tell whether the face lies in one of the sides that isn't the face itself."""
    return any([lies_in(face, side) and face != side for side in sides])


def lies_in(inner, outer):
    """Tell whether all points of the inner face are points of the outer one."""
    # Every pair of sides comes by here: most are told apart by their first point.
    for point in inner:
        if point not in outer:
            return False
    return True


def has_face(net, thing):
    """Tell whether a thing is a face of what is known to be a net."""
    return is_any_face(thing) and any([lies_in(thing, side) for side in net])


def ring_of(net, face):
    """Tell the ring of what is known to be a face of a net."""
    # None of these lies in another one, or its side would lie in the other's.
    return tuple(sorted([left_of(side, face) for side in net if lies_in(face, side)]))


def all_faces(net):
    """Tell the rising list of all faces of the net."""
    found = set()
    for side in net:
        for part in parts_of(side):
            found.add(part)
    return sorted(found)


def parts_of(side):
    """Tell the list of all faces that lie in the side."""
    parts = [()]
    for point in side:
        parts = parts + [part + (point,) for part in parts]
    return parts


def points_of(net):
    """Tell the rising list of the points of the net."""
    return sorted({point for side in net for point in side})


def width_of(net):
    """Tell the greatest size of the net's faces."""
    return max([len(side) for side in net])


def left_of(side, face):
    """Tell what is left of the side without the points of the face."""
    return tuple([point for point in side if point not in face])


def outermost(some):
    """Tell the net whose faces are all that lie in some of these faces."""
    return tuple([face for face in sorted(set(some)) if not lies_in_another(face, some)])
