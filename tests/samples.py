"""What several tests need: things that are no nets, all small nets, and a plain model of nets."""

import sys
from functools import lru_cache
from itertools import combinations
from random import Random

from facecounts import errors

TRIANGLE = ((0, 1), (0, 2), (1, 2))
POINTLESS = ((),)
PAIRS = tuple(combinations(range(16), 2))
SIXTY = PAIRS[:60]
SIXTY_ONE = PAIRS[:61]
SIX = (0, 1, 2, 3, 4, 5)
GREAT = 10 ** 59

# Things that are neither a net, nor a face, nor a size, nor a point, nor a net's text.
NOTHINGS = (
    True, False, None, "", "0,1,2,", "abc", [], {}, [0], [()], [(0,)], ["0"], {"0": 1}, {0: (0,)},
    {(0,): None}, -1, -GREAT, GREAT, (None,), (True,), (False,), ("0",), ([],), ({},), ([0],),
    ((True,),), ((0, True),), ((None,),), (("0",),), ((0,), [1]), ((0,), 1), (((0,),),),
    ((((0,),),),), (((((0,),),),),), [[[[[0]]]]], {"a": [{"b": ({"c": 1},)}]}, tuple([()] * 2000),
    0.0, 1.5, {0}, frozenset(), b"0", object(),
)

REFUSALS = (
    "NoNet", "NoFace", "NoPoint", "NotApart", "TooMany", "NoText", "NoRow", "NoNumber", "NotLevel",
    "NoCrowd", "NoWay", "NotClosed", "NoSwap", "NoPlaces", "NoDeed", "NoLine",
)

# What looks much like a net, and is none.
NO_NETS = (
    (), ((-1,),), ((16,),), ((GREAT,),), ((-GREAT, 0),), ((0, True),), ((False, 1),), ((0.0, 1),),
    ((1, 0),), ((0, 0),), ((0, 2, 1),), ((0, 1, 1),), ((0, 1, 2, 3, 4, 5, 6),),
    ((0, 1), (0, 1)), ((0,), (0, 1)), ((0, 1), (1,)), ((0, 1, 2), (0, 2)), ((), (0,)), ((), ()),
    ((0, 2), (0, 1)), ((1,), (0,)), ((0, 1), (1, 2), (0, 2)), SIXTY_ONE, [(0, 1)], ([0, 1],),
    ((0, 1), (0, 2), [1, 2]), ((0, 1), None), ((0, 1), "12"), (0, 1), 7, "0,1",
)


def check_refused(test, name, deed, *things):
    """Hold that the deed is refused with just this class."""
    with test.assertRaises(errors.FaceError, msg=f"{deed.__name__}{things!r}") as caught:
        deed(*things)
    test.assertIs(caught.exception.__class__, getattr(errors, name), f"{deed.__name__}{things!r}")


def subsets(things):
    """Tell all tuples of some of the things, in their order."""
    return [part for size in range(len(things) + 1) for part in combinations(things, size)]


@lru_cache(maxsize=None)
def model_faces(net):
    """Tell the set of all faces of a net, each as a frozenset."""
    return frozenset(frozenset(part) for side in net for part in subsets(side))


def model_net(found):
    """Tell the net that has just these faces, each a frozenset."""
    return tuple(sorted(tuple(sorted(face)) for face in found if not any(face < other for other in found)))


def model_is_net(sides):
    """Tell whether a tuple of faces is a net."""
    if not 1 <= len(sides) <= 60 or list(sides) != sorted(set(sides)):
        return False
    return not any(set(one) < set(other) for one in sides for other in sides)


def nets_on(points):
    """Tell all nets that have no other points than these."""
    return [sides for sides in subsets(sorted(subsets(points))) if model_is_net(sides)]


def from_behind(choice, numbers, size):
    """Tell all tuples of this size of the numbers from 0 on, in order from behind."""
    return sorted(choice(range(numbers), size), key=lambda one: one[::-1])


def model_first_net(row):
    """Tell the first net, by all faces in order from behind gone through."""
    points = row[1] if len(row) > 1 else 0
    found = [face for size, many in enumerate(row) for face in from_behind(combinations, points, size)[:many]]
    return model_net({frozenset(face) for face in found})


SMALL_NETS = nets_on((0, 1, 2, 3))
GREATER_NETS = (
    SIXTY, (SIX,), tuple(combinations(range(7), 6)), tuple(combinations(range(6), 3)), ((0, 15), (2, 10), (3,)),
    ((0, 1, 2), (0, 3), (3, 4, 5, 6), (7,)), tuple((point,) for point in range(16)),
)

# Things of which none is a whole number.
NO_WHOLES = (True, False, None, "", "1", (), (1,), [], [1], {}, {1: 1}, 0.0, 1.0, b"1")

# Things that stand at some place of a tuple in which whole numbers alone are due.
NO_PARTS = (True, False, None, "", "1", (), (1,), [], [1], {}, 1.0)


def swapped_in(numbers, thing):
    """Tell all tuples that have the thing at one place, and else the numbers."""
    return [numbers[:at] + (thing,) + numbers[at + 1:] for at in range(len(numbers))]


NO_ROWS = NOTHINGS + (
    (), tuple(range(13)), (0,) * 13, (1,) * 200, [1], [1, 3, 3], ["1"], "(1, 3, 3)", {1: 3}, {0: 1, 1: 3}, ((1, 3, 3),),
    (1, (3,)), ([1], 3), 7, 0, GREAT, 1.0, b"1",
) + tuple(
    broken for numbers in ((1,), (1, 3), (1, 3, 3), tuple(range(12))) for thing in NO_PARTS
    for broken in swapped_in(numbers, thing)
)


def rows_taken(deed, things, most=20000):
    """Tell how many rows of the program a question takes, and fail beyond the most: what is gone through takes more."""
    taken = 0

    def count(frame, event, argument):
        nonlocal taken
        taken += event == "line"
        if taken > most:
            raise AssertionError(f"{deed.__name__}{things!r} takes too many rows")
        return count

    before = sys.gettrace()
    sys.settrace(count)
    try:
        deed(*things)
    finally:
        sys.settrace(before)
    return taken


def border_of(points):
    """Tell the border of the net of one side of these points."""
    return tuple(sorted(combinations(points, len(points) - 1)))


def circle(*points):
    """Tell the net of pairs that leads round through these points."""
    return tuple(sorted(tuple(sorted(pair)) for pair in zip(points, points[1:] + points[:1])))


def model_joined(*nets):
    """Tell nets without a common point joined."""
    sides = [()]
    for net in nets:
        sides = [side + more for side in sides for more in net]
    return tuple(sorted(tuple(sorted(side)) for side in sides))


BORDERS = tuple(border_of(tuple(range(size))) for size in range(1, 8))
CIRCLES = tuple(circle(*range(size)) for size in range(3, 17)) + (circle(0, 7, 2, 15, 4), circle(3, 1, 9, 8, 5, 12))
JOINED_BORDERS = (
    model_joined(border_of((0, 1)), border_of((2, 3))),
    model_joined(border_of((0, 1)), border_of((2, 3)), border_of((4, 5))),
    model_joined(border_of((0, 15)), border_of((2, 9)), border_of((4, 5)), border_of((1, 3))),
    model_joined(border_of((0, 1)), border_of((2, 3)), border_of((4, 5)), border_of((6, 7)), border_of((8, 9))),
    model_joined(border_of((0, 1, 2)), border_of((3, 4))),
    model_joined(border_of((0, 5, 10)), border_of((1, 2, 12))),
    model_joined(border_of((0, 1, 2)), border_of((3, 4, 5)), border_of((6, 7, 8))),
    model_joined(border_of((0, 1, 2, 3)), border_of((4, 5, 6))),
    model_joined(border_of((0, 1, 2, 3)), border_of((4, 5, 6, 7))),
    model_joined(border_of((0, 1, 2, 3, 4, 5)), border_of((7, 8))),
)
JOINED_CIRCLES = (
    model_joined(circle(0, 1, 2, 3, 4), border_of((5, 6))),
    model_joined(circle(0, 1, 2, 3, 4, 5), circle(6, 7, 8, 9, 10, 11, 12)),
    model_joined(circle(0, 1, 2, 3), circle(6, 7, 8), border_of((9, 10))),
)
# Of even widths parts bear nothing on one another's balances, and that of () comes out right.
CLOSED_IN_PARTS = (circle(0, 1, 2) + circle(3, 4, 5), circle(0, 1, 2) + circle(3, 4, 5, 6) + circle(7, 8, 9, 10, 11),
                   border_of((0, 1, 2, 3, 4)) + border_of((5, 6, 7, 8, 9)))
CLOSED_NETS = BORDERS + CIRCLES + JOINED_BORDERS + JOINED_CIRCLES + CLOSED_IN_PARTS

UNLEVEL_NETS = (
    ((0,), (1, 2)), ((0, 1), (2,)), ((0, 1, 2), (2, 3), (4,)), ((0, 1), (0, 2), (1, 2), (3,)), ((0, 15), (2, 10), (3,)),
    ((0, 1, 2, 3, 4, 5), (0, 6)), ((0, 1), (0, 2), (1, 3, 4)), ((0,), (1,), (2, 3)),
)


def without_one(things):
    """Tell what is left of a tuple when any one of its things is left out."""
    return [things[:at] + things[at + 1:] for at in range(len(things))]


def crowd_of(bags):
    """Tell the rising tuple of all that is left of the bags when any numbers of them are left out."""
    return tuple(sorted({part for bag in bags for part in subsets(bag)}))


def model_is_bag(thing):
    if thing.__class__ is not tuple or any(part.__class__ is not int for part in thing):
        return False
    return len(thing) <= 6 and thing == tuple(sorted(thing)) and set(thing) <= set(range(16))


def model_is_crowd(thing):
    """Tell whether a thing is a crowd, by the words of the point."""
    if thing.__class__ is not tuple or not 1 <= len(thing) <= 200 or not all(model_is_bag(bag) for bag in thing):
        return False
    found = set(thing)
    return list(thing) == sorted(found) and all(part in found for bag in thing for part in without_one(bag))


def model_counts_of_bags(crowd):
    sizes = [len(bag) for bag in crowd]
    return tuple(sizes.count(size) for size in range(max(sizes) + 1))


def grown_crowd(many, numbers, seed):
    """Tell some crowd of so many bags of these numbers, the same one for the same seed."""
    chance = Random(seed)
    found = {(): True}
    grown = [()]
    while len(grown) < many:
        bag = tuple(sorted(chance.choice(grown) + (chance.choice(numbers),)))
        if len(bag) <= 6 and bag not in found and all(part in found for part in without_one(bag)):
            found[bag] = True
            grown.append(bag)
    return tuple(sorted(grown))


CROWDS = tuple(
    grown_crowd(many, ((0, 1, 2, 3), (0, 4, 5, 15), tuple(range(16)))[many % 3], many) for many in range(1, 201))
FULL_CROWD = CROWDS[-1]


def model_ring(found, face):
    """Tell the set of all faces round a face, of the set of all faces of a net."""
    return {other - face for other in found if face <= other}


def proper_parts(points):
    """Tell the set of all faces that lie in these points, but themselves."""
    return {frozenset(part) for part in subsets(points) if len(part) < len(points)}


def model_is_swap(net, out, into):
    """Tell whether two tuples of points are a swap of a closed net, by the words of the point."""
    found = model_faces(net)
    width = max(len(side) for side in net)
    points = {point for side in net for point in side}
    if width == 0 or set(out) & set(into) or len(out) + len(into) != width + 1 or out == ():
        return False
    if frozenset(out) not in found or frozenset(into) in found or not set(into) <= set(range(16)):
        return False
    if len(into) == 1 and into[0] != min(number for number in range(17) if number not in points):
        return False
    return model_ring(found, frozenset(out)) == proper_parts(into)


@lru_cache(maxsize=None)
def model_swaps(net):
    """Tell all swaps of a closed net: whatever comes has the points of the ring, or is a number that is no point."""
    found = model_faces(net)
    points = {point for side in net for point in side}
    told = []
    for out in sorted(tuple(sorted(face)) for face in found if face):
        inner = model_ring(found, frozenset(out))
        into = tuple(sorted({point for face in inner for point in face}))
        free = [(number,) for number in range(16) if number not in points]
        told += [(out, other) for other in [into] + free[:1] if model_is_swap(net, out, other)]
    return tuple(told)


def model_swapped(net, swap):
    """Tell the net that has all faces but those in which out lies, and all that lie in into and some points of out."""
    out, into = frozenset(swap[0]), frozenset(swap[1])
    kept = {face for face in model_faces(net) if not out <= face}
    return model_net(kept | {into | part for part in proper_parts(swap[0])} | proper_parts(swap[1]))


def walk(net, seed, many):
    """Tell the nets that so many swaps lead through, the same ones for the same seed."""
    chance = Random(seed)
    found = [net]
    for _ in range(many):
        some = [swap for swap in model_swaps(net) if len(net) + len(swap[0]) - len(swap[1]) <= 60]
        # Those of few points in out lead to few sides again: of each size as many are to come.
        size = chance.choice(sorted({len(swap[0]) for swap in some}))
        net = model_swapped(net, chance.choice([swap for swap in some if len(swap[0]) == size]))
        found.append(net)
    return found


def renamed(net, seed):
    """Tell the net with its points called otherwise, the same one for the same seed."""
    names = Random(seed).sample(range(16), 16)
    return tuple(sorted(tuple(sorted(names[point] for point in side)) for side in net))


WALKS = tuple(
    net for width, many in ((1, 4), (2, 12), (3, 16), (4, 16), (5, 14), (6, 6))
    for net in walk(renamed(border_of(tuple(range(width + 1))), width), 7 * width, many))
