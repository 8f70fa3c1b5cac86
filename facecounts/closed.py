"""Level nets and closed ones, the balance of faces, and borders."""

from facecounts.errors import NoFace, NotClosed, NotLevel, TooMany
from facecounts.nets import MOST_SIDES, all_faces, check_net, has_face, left_of, parts_of, width_of


def is_level(net):
    """Tell whether all sides of the net have one size."""
    check_net(net)
    return has_one_size(net)


def is_closed(net):
    """Tell whether the net is level and the balance of each face is as it is to be."""
    check_net(net)
    return has_one_size(net) and first_wrong(net) is None


def balance(net, face):
    """Tell how many faces of the net round the face are evenly greater, less how many oddly."""
    check_net(net)
    if not has_face(net, face):
        raise NoFace("a face of the net is due")
    return balances(net)[face]


def first_open(net):
    """Tell the first face of the level net whose balance isn't as it is to be, or None."""
    check_net(net)
    if not has_one_size(net):
        raise NotLevel("a level net is due")
    return first_wrong(net)


def border(net):
    """Tell the net of all faces one size below the level net's sides that lie in just one, or None."""
    check_net(net)
    if not has_one_size(net) or width_of(net) == 0:
        raise NotLevel("a level net with points is due")
    outer = single_faces(net)
    if len(outer) > MOST_SIDES:
        raise TooMany("the border would have more than sixty sides")
    return tuple(outer) if outer else None


def check_closed(thing):
    """Refuse what is no net, then what is no closed one."""
    if not is_closed(thing):
        raise NotClosed("a closed net is due")


def has_one_size(net):
    """Tell whether all sides of what is known to be a net have one size."""
    return all([len(side) == len(net[0]) for side in net])


def first_wrong(net):
    """Tell the least face of what is known to be a level net whose balance is wrong, or None."""
    width = width_of(net)
    wrong = [face for face, told in balances(net).items() if told != sign_of(width - len(face))]
    return min(wrong, key=lambda face: (len(face), face), default=None)


def balances(net):
    """Tell the balance of each face of what is known to be a net."""
    told = {}
    # Each face is put to all that lie in it: going through all pairs would take far longer.
    for outer in all_faces(net):
        for inner in parts_of(outer):
            told[inner] = told.get(inner, 0) + sign_of(len(outer) - len(inner))
    return told


def sign_of(number):
    """Tell 1 of an even number, -1 of an odd one."""
    return -1 if number % 2 else 1


def single_faces(net):
    """Tell the rising list of the faces one size below the sides that lie in just one of them."""
    many = {}
    for side in net:
        for point in side:
            face = left_of(side, (point,))
            many[face] = many.get(face, 0) + 1
    return sorted([face for face, times in many.items() if times == 1])
