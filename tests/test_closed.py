"""[12], [13]: level nets, closed nets, balances and borders."""

import unittest
from itertools import combinations

from facecounts.closed import balance, border, first_open, is_closed, is_level
from facecounts.nets import is_net, joined, ring
from tests.samples import (
    BORDERS, CIRCLES, CLOSED_IN_PARTS, CLOSED_NETS, GREATER_NETS, JOINED_BORDERS, JOINED_CIRCLES, NO_NETS, NOTHINGS,
    POINTLESS, SIX, SIXTY, SMALL_NETS, TRIANGLE, UNLEVEL_NETS, border_of, check_refused, circle, model_faces,
    model_is_net, subsets,
)

# Six points of which each two are a pair, ten sides: closed round each point, not in all.
ONE_SIDED = ((0, 1, 2), (0, 1, 5), (0, 2, 3), (0, 3, 4), (0, 4, 5), (1, 2, 4), (1, 3, 4), (1, 3, 5), (2, 3, 5), (2, 4, 5))
# Two borders of four points each, apart, at a common point, and at a common pair.
TWO_APART = border_of((0, 1, 2, 3)) + border_of((4, 5, 6, 7))
AT_A_POINT = tuple(sorted(border_of((0, 1, 2, 3)) + border_of((3, 4, 5, 6))))
AT_A_PAIR = tuple(sorted(border_of((0, 1, 2, 3)) + border_of((2, 3, 4, 5))))
# Closed in all and round each point, but not at each pair.
WRONG_PAIRS = (
    (0, 1, 3), (0, 1, 4), (0, 2, 4), (0, 3, 4), (1, 2, 3), (1, 2, 4), (2, 3, 5), (2, 3, 6), (2, 5, 6), (3, 5, 6),
)
# Fourteen sides of seven points, closed round each point, not in all.
BENT = tuple(sorted(
    tuple(sorted((at, (at + near) % 7, (at + 3) % 7))) for at in range(7) for near in (1, 2)
))
TRIPLES = tuple(combinations(range(5), 3))
LEVEL_NETS = tuple(sides for sides in subsets(TRIPLES) if sides) + tuple(
    sides for sides in subsets(tuple(combinations(range(5), 2))) if sides) + (
    ONE_SIDED, TWO_APART, AT_A_POINT, AT_A_PAIR, WRONG_PAIRS, BENT, SIXTY, (SIX,), POINTLESS)


def changed_nets(net):
    """Tell the net with a side left out, exchanged or put in, as far as these are nets."""
    size = len(net[0])
    points = sorted({point for side in net for point in side})
    others = [side for side in combinations(points + [16 - len(points)], size) if side not in net][:4]
    changed = [net[:at] + net[at + 1:] for at in range(len(net))]
    for other in others:
        changed.append(tuple(sorted(net + (other,))))
        changed.append(tuple(sorted(net[1:] + (other,))))
        changed.append(tuple(sorted(net[:-1] + (other,))))
    return [sides for sides in changed if is_net(sides)]


def model_balance(found, face):
    return sum((-1) ** (len(other) - len(face)) for other in found if face <= other)


def model_open(net):
    """Tell the first face of a level net whose balance isn't right."""
    found = model_faces(net)
    width = max(len(face) for face in found)
    for size in range(width + 1):
        for face in sorted(tuple(sorted(face)) for face in found if len(face) == size):
            if model_balance(found, frozenset(face)) != (-1) ** (width - size):
                return face
    return None


class Level(unittest.TestCase):

    def test_level_nets(self):
        for net in LEVEL_NETS + CLOSED_NETS:
            self.assertIs(is_level(net), True, net)

    def test_nets_that_are_not_level(self):
        for net in UNLEVEL_NETS:
            self.assertIs(is_level(net), False, net)

    def test_of_each_net(self):
        for net in SMALL_NETS + list(GREATER_NETS):
            self.assertIs(is_level(net), len({len(side) for side in net}) == 1, net)

    def test_no_net(self):
        for thing in NOTHINGS + NO_NETS:
            check_refused(self, "NoNet", is_level, thing)


class Balance(unittest.TestCase):

    def test_known_ones(self):
        for net, face, told in (
            (TRIANGLE, (), 1), (TRIANGLE, (0,), -1), (TRIANGLE, (0, 2), 1), (POINTLESS, (), 1), (((4,),), (), 0),
            (((4,),), (4,), 1), (((4,), (5,)), (), -1), (((1,), (4,), (5,)), (), -2), ((SIX,), (), 0), ((SIX,), (1, 3), 0),
            ((SIX,), SIX, 1), (ONE_SIDED, (), 0), (ONE_SIDED, (0,), 1), (SIXTY, (), 1 - 16 + 60), (SIXTY, (0,), -14),
            (((0, 1), (2,)), (), -1), (((0, 1), (2,)), (2,), 1), (((0, 1), (2,)), (1,), 0),
        ):
            self.assertEqual(balance(net, face), told, (net, face))
            self.assertIs(balance(net, face).__class__, int)

    def test_of_each_face(self):
        for net in SMALL_NETS + list(GREATER_NETS + UNLEVEL_NETS) + [ONE_SIDED, AT_A_POINT, AT_A_PAIR]:
            found = model_faces(net)
            for face in sorted(found, key=sorted)[:70]:
                self.assertEqual(balance(net, tuple(sorted(face))), model_balance(found, face), (net, face))

    def test_of_closed_nets(self):
        for net in CLOSED_NETS:
            width = len(net[0])
            for face in sorted(model_faces(net), key=sorted)[::7]:
                self.assertEqual(balance(net, tuple(sorted(face))), (-1) ** (width - len(face)))

    def test_no_face(self):
        for thing in ((0, 1, 2), (3,), (1, 0), (0, 0), (True,), (False,), (0, True), (16,), (-1,), 0, True, [0]) + NOTHINGS:
            check_refused(self, "NoFace", balance, TRIANGLE, thing)
            check_refused(self, "NoFace", balance, ((4, 5), (7,)), thing)
        check_refused(self, "NoFace", balance, POINTLESS, (0,))
        check_refused(self, "NoFace", balance, (SIX,), SIX + (6,))

    def test_no_net_first(self):
        for thing in NOTHINGS + NO_NETS:
            check_refused(self, "NoNet", balance, thing, ())
            check_refused(self, "NoNet", balance, thing, None)


class Closed(unittest.TestCase):

    def check_of(self, net):
        told = model_open(net)
        self.assertIs(is_closed(net), told is None, net)
        self.assertEqual(first_open(net), told, net)

    def test_closed_nets(self):
        for net in CLOSED_NETS + (POINTLESS, AT_A_POINT[:4]):
            self.assertIs(is_closed(net), True, net)
            self.assertIs(first_open(net), None, net)

    def test_rings_of_closed_nets(self):
        for net in BORDERS + JOINED_BORDERS + JOINED_CIRCLES + CLOSED_IN_PARTS:
            for face in sorted(model_faces(net), key=sorted)[::5]:
                self.assertIs(is_closed(ring(net, tuple(sorted(face)))), True, (net, face))

    def test_closed_nets_joined(self):
        for one in BORDERS[:4] + CIRCLES[:3]:
            for other in (border_of((14, 15)), border_of((11, 13, 15)), circle(10, 12, 11, 14, 15), POINTLESS):
                self.assertIs(is_closed(joined(one, other)), True)
                self.assertIs(first_open(joined(other, one)), None)
        self.assertIs(is_closed(joined(TRIANGLE, ((5,),))), False)

    def test_known_ones_that_are_open(self):
        for net, face in (
            (((0,),), ()), (((0,), (1,), (2,)), ()), (((0, 1), (1, 2)), ()), ((SIX,), ()), (ONE_SIDED, ()), (TWO_APART, ()),
            (AT_A_POINT, ()), (AT_A_PAIR, ()), (((0, 1), (0, 2), (0, 3), (1, 2)), (0,)),
            (((0, 1), (2, 3), (2, 4), (2, 5), (3, 4), (3, 5)), (0,)), (((0, 3), (1, 2), (1, 3), (2, 3)), (0,)),
            (WRONG_PAIRS, (0, 2)), (BENT, ()),
        ):
            self.assertIs(is_closed(net), False, net)
            self.assertEqual(first_open(net), face, net)

    def test_each_level_net_of_five_points(self):
        for net in LEVEL_NETS:
            self.check_of(net)

    def test_open_faces_of_each_size(self):
        sizes = {len(first_open(net)) for net in LEVEL_NETS if not is_closed(net)}
        self.assertEqual(sizes, {0, 1, 2})

    def test_a_side_left_out_exchanged_or_put_in(self):
        for net in CLOSED_NETS[1:]:
            if len(model_faces(net)) < 150:
                for changed in changed_nets(net)[:12]:
                    self.check_of(changed)
        for net in (BORDERS[-1], JOINED_BORDERS[3], JOINED_CIRCLES[1]):
            self.assertIs(is_closed(net[1:]), False)
            self.assertIs(is_closed(net[:-1]), False)

    def test_nets_that_are_not_level(self):
        for net in UNLEVEL_NETS:
            self.assertIs(is_closed(net), False, net)
            check_refused(self, "NotLevel", first_open, net)

    def test_the_balances_alone_are_not_enough(self):
        net = BENT + ((7,), (8,))
        found = model_faces(net)
        self.assertTrue(all(model_balance(found, face) == (-1) ** (3 - len(face)) for face in found))
        self.assertIs(is_closed(net), False)
        check_refused(self, "NotLevel", first_open, net)

    def test_of_each_net(self):
        for net in SMALL_NETS:
            if len({len(side) for side in net}) == 1:
                self.check_of(net)
            else:
                self.assertIs(is_closed(net), False)
                check_refused(self, "NotLevel", first_open, net)

    def test_no_net_first(self):
        for thing in NOTHINGS + NO_NETS:
            check_refused(self, "NoNet", is_closed, thing)
            check_refused(self, "NoNet", first_open, thing)


def apart(size, common):
    """Tell many tuples of so many points, each two with no more than so many in common."""
    found = []
    for side in combinations(range(16), size):
        if all(len(set(side) & set(other)) <= common for other in found):
            found.append(side)
    return found


def model_border(net):
    size = len(net[0]) - 1
    found = sorted(tuple(sorted(face)) for face in model_faces(net) if len(face) == size)
    return tuple(face for face in found if sum(set(face) <= set(side) for side in net) == 1)


class Border(unittest.TestCase):

    def test_of_one_side(self):
        for size in range(1, 7):
            for points in (tuple(range(size)), tuple(range(16 - size, 16)), tuple(range(0, 2 * size, 2))):
                self.assertEqual(border((points,)), border_of(points))
                self.assertIs(is_net(border((points,))), True)
                self.assertIs(is_closed(border((points,))), True)
        self.assertEqual(border(((5,),)), POINTLESS)

    def test_known_ones(self):
        self.assertEqual(border(((0, 1), (1, 2))), ((0,), (2,)))
        self.assertEqual(border(((0, 1), (2, 10))), ((0,), (1,), (2,), (10,)))
        self.assertEqual(border(((0, 1, 2), (1, 2, 3))), ((0, 1), (0, 2), (1, 3), (2, 3)))
        self.assertEqual(border(((0, 1), (0, 2), (0, 3))), ((1,), (2,), (3,)))
        self.assertEqual(border(((0, 1, 2), (0, 1, 3), (0, 1, 4))), ((0, 2), (0, 3), (0, 4), (1, 2), (1, 3), (1, 4)))

    def test_of_closed_nets_there_is_none(self):
        for net in CLOSED_NETS:
            if net != POINTLESS:
                self.assertIs(border(net), None, net)
        for net in (ONE_SIDED, TWO_APART, AT_A_POINT, AT_A_PAIR, ((0,), (1,), (2,)), tuple((at,) for at in range(16))):
            self.assertIs(border(net), None, net)

    def test_of_each_level_net(self):
        for net in LEVEL_NETS + tuple(SMALL_NETS):
            if net != POINTLESS and len({len(side) for side in net}) == 1:
                self.assertEqual(border(net), model_border(net) or None, net)

    def test_of_a_closed_net_without_a_side(self):
        for net in BORDERS[1:] + JOINED_BORDERS:
            self.assertEqual(border(net[1:]), border_of(net[0]))
            self.assertEqual(border(net[:-1]), border_of(net[-1]))

    def test_just_sixty_and_more(self):
        for size in range(3, 7):
            sides = apart(size, size - 2)
            most = 60 // size
            just = tuple(sorted(sides[:most]))
            self.assertEqual(len(model_border(just)), 60)
            self.assertEqual(border(just), model_border(just))
            self.assertIs(is_net(border(just)), True)
            check_refused(self, "TooMany", border, tuple(sorted(sides[:most + 1])))
            check_refused(self, "TooMany", border, tuple(sorted(sides[:min(60, len(sides))])))

    def test_just_one_more_than_sixty(self):
        sides = apart(3, 1)[:20]
        fitting = [
            net for net in (tuple(sorted(sides + [other])) for other in combinations(range(16), 3) if other not in sides)
            if len(model_border(net)) == 61
        ]
        self.assertTrue(fitting)
        for net in fitting:
            self.assertTrue(model_is_net(net))
            check_refused(self, "TooMany", border, net)

    def test_not_level(self):
        for net in UNLEVEL_NETS + (POINTLESS,):
            check_refused(self, "NotLevel", border, net)

    def test_not_level_ahead_of_too_many(self):
        many = tuple(sorted(side for side in apart(3, 1) if 15 not in side))
        check_refused(self, "TooMany", border, many)
        self.assertIs(is_net(many + ((15,),)), True)
        check_refused(self, "NotLevel", border, many + ((15,),))

    def test_no_net_first(self):
        for thing in NOTHINGS + NO_NETS:
            check_refused(self, "NoNet", border, thing)


if __name__ == "__main__":
    unittest.main()
