"""What several tests need: things that are no nets, all small nets, and a plain model of nets."""

from itertools import combinations

from facecounts import errors

TRIANGLE = ((0, 1), (0, 2), (1, 2))
POINTLESS = ((),)
PAIRS = tuple(combinations(range(16), 2))
SIXTY = PAIRS[:60]
SIXTY_ONE = PAIRS[:61]
SIX = (0, 1, 2, 3, 4, 5)
GREAT = 10 ** 59

# Things that are neither a net, nor a face, nor a size, nor a point, nor a net's text.
NOTHINGS = (
    True, False, None, "", "0,1,2,", "abc", [], {}, [0], [()], [(0,)], ["0"], {"0": 1}, {0: (0,)},
    {(0,): None}, -1, -GREAT, GREAT, (None,), (True,), (False,), ("0",), ([],), ({},), ([0],),
    ((True,),), ((0, True),), ((None,),), (("0",),), ((0,), [1]), ((0,), 1), (((0,),),),
    ((((0,),),),), (((((0,),),),),), [[[[[0]]]]], {"a": [{"b": ({"c": 1},)}]}, tuple([()] * 2000),
    0.0, 1.5, {0}, frozenset(), b"0", object(),
)

REFUSALS = (
    "NoNet", "NoFace", "NoPoint", "NotApart", "TooMany", "NoText", "NoRow", "NoNumber", "NotLevel",
    "NoCrowd", "NoWay", "NotClosed", "NoSwap", "NoPlaces", "NoDeed", "NoLine",
)

# What looks much like a net, and is none.
NO_NETS = (
    (), ((-1,),), ((16,),), ((GREAT,),), ((-GREAT, 0),), ((0, True),), ((False, 1),), ((0.0, 1),),
    ((1, 0),), ((0, 0),), ((0, 2, 1),), ((0, 1, 1),), ((0, 1, 2, 3, 4, 5, 6),),
    ((0, 1), (0, 1)), ((0,), (0, 1)), ((0, 1), (1,)), ((0, 1, 2), (0, 2)), ((), (0,)), ((), ()),
    ((0, 2), (0, 1)), ((1,), (0,)), ((0, 1), (1, 2), (0, 2)), SIXTY_ONE, [(0, 1)], ([0, 1],),
    ((0, 1), (0, 2), [1, 2]), ((0, 1), None), ((0, 1), "12"), (0, 1), 7, "0,1",
)


def check_refused(test, name, deed, *things):
    """Hold that the deed is refused with just this class."""
    with test.assertRaises(errors.FaceError, msg=f"{deed.__name__}{things!r}") as caught:
        deed(*things)
    test.assertIs(caught.exception.__class__, getattr(errors, name), f"{deed.__name__}{things!r}")


def subsets(things):
    """Tell all tuples of some of the things, in their order."""
    return [part for size in range(len(things) + 1) for part in combinations(things, size)]


def model_faces(net):
    """Tell the set of all faces of a net, each as a frozenset."""
    return {frozenset(part) for side in net for part in subsets(side)}


def model_net(found):
    """Tell the net that has just these faces, each a frozenset."""
    return tuple(sorted(tuple(sorted(face)) for face in found if not any(face < other for other in found)))


def model_is_net(sides):
    """Tell whether a tuple of faces is a net."""
    if not 1 <= len(sides) <= 60 or list(sides) != sorted(set(sides)):
        return False
    return not any(set(one) < set(other) for one in sides for other in sides)


def nets_on(points):
    """Tell all nets that have no other points than these."""
    return [sides for sides in subsets(sorted(subsets(points))) if model_is_net(sides)]


SMALL_NETS = nets_on((0, 1, 2, 3))
GREATER_NETS = (
    SIXTY, (SIX,), tuple(combinations(range(7), 6)), tuple(combinations(range(6), 3)), ((0, 15), (2, 10), (3,)),
    ((0, 1, 2), (0, 3), (3, 4, 5, 6), (7,)), tuple((point,) for point in range(16)),
)
