"""[6]: the ring of a face, and what is left without a point."""

import unittest

from facecounts.nets import is_net, ring, without
from tests.samples import (
    GREAT, GREATER_NETS, NO_NETS, NOTHINGS, POINTLESS, SIX, SIXTY, SMALL_NETS, TRIANGLE,
    check_refused, model_faces, model_net,
)

ALL_NETS = SMALL_NETS + list(GREATER_NETS)


def model_ring(net, face):
    found = model_faces(net)
    return model_net({other for other in found if not other & face and other | face in found})


def model_without(net, point):
    return model_net({face for face in model_faces(net) if point not in face})


class Ring(unittest.TestCase):

    def test_of_no_points_is_the_net(self):
        for net in ALL_NETS:
            self.assertEqual(ring(net, ()), net)

    def test_of_a_side_has_no_points(self):
        for net in ALL_NETS:
            for side in net:
                self.assertEqual(ring(net, side), POINTLESS)

    def test_known_ones_between(self):
        self.assertEqual(ring(TRIANGLE, (0,)), ((1,), (2,)))
        self.assertEqual(ring((SIX,), (1, 3)), ((0, 2, 4, 5),))
        self.assertEqual(ring(((0, 1, 5), (0, 2, 3), (1, 2, 4)), (1,)), ((0, 5), (2, 4)))
        self.assertEqual(ring(((0, 1, 9), (0, 2), (1, 4, 9)), (9,)), ((0, 1), (1, 4)))
        self.assertEqual(ring(((0, 9), (3, 4, 9), (3, 5)), (9,)), ((0,), (3, 4)))
        self.assertEqual(ring(((0, 5, 9), (1, 5), (4, 5)), (5,)), ((0, 9), (1,), (4,)))
        self.assertEqual(ring(((0, 3, 5), (1, 3), (3, 4)), (3,)), ((0, 5), (1,), (4,)))

    def test_of_each_face(self):
        for net in ALL_NETS:
            for face in model_faces(net):
                told = ring(net, tuple(sorted(face)))
                self.assertEqual(told, model_ring(net, face), (net, face))
                self.assertTrue(is_net(told))

    def test_no_face(self):
        for thing in ((0, 1, 2), (3,), (1, 0), (0, 0), (True,), (False,), (0, True), (GREAT,), (-1,), 0, 1, True, [0]):
            check_refused(self, "NoFace", ring, TRIANGLE, thing)
        for thing in NOTHINGS:
            check_refused(self, "NoFace", ring, TRIANGLE, thing)
            check_refused(self, "NoFace", ring, POINTLESS, thing)
        check_refused(self, "NoFace", ring, POINTLESS, (0,))
        check_refused(self, "NoFace", ring, (SIX,), SIX + (6,))

    def test_no_net_first(self):
        for thing in NOTHINGS + NO_NETS:
            check_refused(self, "NoNet", ring, thing, ())
            check_refused(self, "NoNet", ring, thing, None)


class Without(unittest.TestCase):

    def test_known_ones(self):
        self.assertEqual(without(TRIANGLE, 0), ((1, 2),))
        self.assertEqual(without(TRIANGLE, 1), ((0, 2),))
        self.assertEqual(without(((7,),), 7), POINTLESS)
        self.assertEqual(without(((3,), (7,)), 7), ((3,),))
        self.assertEqual(without((SIX,), 0), ((1, 2, 3, 4, 5),))
        self.assertEqual(without(((0, 1), (2, 3)), 0), ((1,), (2, 3)))
        self.assertEqual(without(((0, 9), (1, 2)), 0), ((1, 2), (9,)))
        # Of four sides nothing is left but a point that lies in others.
        self.assertEqual(without(SIXTY, 15), tuple(side for side in SIXTY if 15 not in side))

    def test_of_each_point(self):
        for net in ALL_NETS:
            for point in sorted({point for side in net for point in side}):
                told = without(net, point)
                self.assertEqual(told, model_without(net, point), (net, point))
                self.assertTrue(is_net(told))

    def test_no_point(self):
        for thing in (3, 15, 16, -1, GREAT, -GREAT, True, False, None, "0", (), (0,), [0], {}, 0.0, 1.0):
            check_refused(self, "NoPoint", without, TRIANGLE, thing)
        for thing in NOTHINGS + tuple(range(16)):
            check_refused(self, "NoPoint", without, POINTLESS, thing)
        check_refused(self, "NoPoint", without, ((0, 2),), 1)

    def test_no_net_first(self):
        for thing in NOTHINGS + NO_NETS:
            check_refused(self, "NoNet", without, thing, 0)
            check_refused(self, "NoNet", without, thing, None)


if __name__ == "__main__":
    unittest.main()
