"""[4]: nets, faces, and the faces of a size."""

import unittest
from itertools import combinations, permutations

from facecounts.nets import faces, is_face, is_net
from tests.samples import (
    GREAT, GREATER_NETS, NO_NETS, NOTHINGS, POINTLESS, SIX, SIXTY, SIXTY_ONE, SMALL_NETS, TRIANGLE,
    check_refused, model_faces, model_is_net, subsets,
)


class IsNet(unittest.TestCase):

    def test_nets(self):
        for net in (TRIANGLE, POINTLESS, ((0,),), ((15,),), ((0, 15),), ((0,), (1, 2)), SIXTY, (SIX,)) + GREATER_NETS:
            self.assertIs(is_net(net), True, net)

    def test_anything_else(self):
        for thing in NOTHINGS + NO_NETS:
            self.assertIs(is_net(thing), False, thing)

    def test_sixty_sides_and_sixty_one(self):
        self.assertEqual((len(SIXTY), len(SIXTY_ONE)), (60, 61))
        self.assertIs(is_net(SIXTY), True)
        self.assertIs(is_net(SIXTY_ONE), False)

    def test_six_points_and_seven(self):
        self.assertIs(is_net((tuple(range(10, 16)),)), True)
        self.assertIs(is_net((tuple(range(9, 16)),)), False)

    def test_each_rising_tuple_of_faces_of_four_points(self):
        nets = 0
        for sides in subsets(sorted(subsets((0, 1, 2, 3)))):
            self.assertIs(is_net(sides), model_is_net(sides), sides)
            nets += is_net(sides)
        # Dedekind's number for four points, less the net that has no face.
        self.assertEqual(nets, 167)

    def test_sides_stand_in_one_order_alone(self):
        net = ((0, 1, 5), (0, 2), (1, 3), (10,))
        for sides in permutations(net):
            self.assertIs(is_net(sides), sides == net, sides)

    def test_points_stand_in_one_order_alone(self):
        for side in permutations((0, 2, 10, 15)):
            self.assertIs(is_net((side,)), side == (0, 2, 10, 15), side)

    def test_a_side_in_a_far_one(self):
        self.assertIs(is_net(((0, 1, 9), (2, 3), (4, 5), (9,))), False)
        self.assertIs(is_net(((0, 9), (2, 3), (4, 5), (6, 9))), True)

    def test_each_point_by_itself(self):
        for number in range(-20, 40):
            self.assertIs(is_net(((number,),)), 0 <= number <= 15, number)
        for thing in NOTHINGS:
            self.assertIs(is_net(((thing,),)), False, thing)
            self.assertIs(is_net(((0, thing),)), False, thing)


class IsFace(unittest.TestCase):

    def test_each_face_that_lies_in_a_side(self):
        for net in SMALL_NETS:
            found = model_faces(net)
            for face in subsets((0, 1, 2, 3, 4)):
                self.assertIs(is_face(net, face), frozenset(face) in found, (net, face))

    def test_no_face_of_the_net(self):
        for thing in ((0, 1, 2), (3,), (0, 3), (1, 0), (0, 0), (True,), (0, True), (False, 1), (16,), (-1,), (GREAT,)):
            self.assertIs(is_face(TRIANGLE, thing), False, thing)
        self.assertIs(is_face(POINTLESS, (0,)), False)

    def test_six_points_and_seven(self):
        self.assertIs(is_face((SIX,), SIX), True)
        self.assertIs(is_face((SIX,), SIX + (6,)), False)
        self.assertIs(is_face((SIX,), (0, 1, 2, 3, 5, 4)), False)
        self.assertIs(is_face((SIX,), SIX + (5,)), False)

    def test_anything_else(self):
        for thing in NOTHINGS + NO_NETS:
            if thing not in ((), (0, 1)):
                self.assertIs(is_face(TRIANGLE, thing), False, thing)

    def test_no_net_first(self):
        for thing in NOTHINGS + NO_NETS:
            check_refused(self, "NoNet", is_face, thing, ())
            check_refused(self, "NoNet", is_face, thing, None)


class Faces(unittest.TestCase):

    def test_of_the_triangle(self):
        self.assertEqual(faces(TRIANGLE, 0), [()])
        self.assertEqual(faces(TRIANGLE, 1), [(0,), (1,), (2,)])
        self.assertEqual(faces(TRIANGLE, 2), [(0, 1), (0, 2), (1, 2)])
        for size in (3, 4, 5, 6):
            self.assertEqual(faces(TRIANGLE, size), [])

    def test_of_the_net_without_points(self):
        self.assertEqual([faces(POINTLESS, size) for size in range(7)], [[()], [], [], [], [], [], []])

    def test_of_a_side_of_six_points(self):
        for size in range(7):
            self.assertEqual(faces((SIX,), size), list(combinations(SIX, size)))

    def test_order_is_of_numbers(self):
        self.assertEqual(faces(((2, 10), (3,)), 1), [(2,), (3,), (10,)])

    def test_of_each_net(self):
        for net in SMALL_NETS + list(GREATER_NETS):
            found = sorted(tuple(sorted(face)) for face in model_faces(net))
            for size in range(7):
                told = faces(net, size)
                self.assertIs(told.__class__, list)
                self.assertEqual(told, [face for face in found if len(face) == size], (net, size))

    def test_no_size(self):
        for thing in (-1, 7, 8, GREAT, -GREAT, True, False, None, "1", "", (), (1,), [], [1], {}, 1.0, TRIANGLE):
            check_refused(self, "NoNumber", faces, TRIANGLE, thing)
        check_refused(self, "NoNumber", faces, POINTLESS, 7)

    def test_no_net_first(self):
        for thing in NOTHINGS + NO_NETS:
            check_refused(self, "NoNet", faces, thing, 1)
            check_refused(self, "NoNet", faces, thing, 7)
            check_refused(self, "NoNet", faces, thing, True)


if __name__ == "__main__":
    unittest.main()
