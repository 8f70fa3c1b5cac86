"""[7]: nets joined."""

import unittest
from itertools import combinations

from facecounts.nets import counts, is_net, joined
from tests.samples import NO_NETS, NOTHINGS, POINTLESS, SIX, SIXTY, SMALL_NETS, TRIANGLE, check_refused, nets_on


def singles(*points):
    return tuple((point,) for point in points)


class Joined(unittest.TestCase):

    def test_known_ones(self):
        self.assertEqual(joined(singles(0, 1), singles(2, 3)), ((0, 2), (0, 3), (1, 2), (1, 3)))
        self.assertEqual(joined(TRIANGLE, ((7,),)), ((0, 1, 7), (0, 2, 7), (1, 2, 7)))
        self.assertEqual(joined(((1, 10), (2,)), ((0, 3),)), ((0, 1, 3, 10), (0, 2, 3)))
        self.assertEqual(joined(((5,),), singles(1, 9)), ((1, 5), (5, 9)))

    def test_with_the_net_without_points(self):
        for net in SMALL_NETS + [SIXTY, (SIX,)]:
            self.assertEqual(joined(net, POINTLESS), net)
            self.assertEqual(joined(POINTLESS, net), net)

    def test_each_two_small_nets(self):
        for one in nets_on((0, 2, 10)):
            for other in nets_on((1, 3, 11)):
                told = joined(one, other)
                sides = {frozenset(side + more) for side in one for more in other}
                self.assertEqual(told, tuple(sorted(tuple(sorted(side)) for side in sides)))
                self.assertEqual(told, joined(other, one))
                self.assertTrue(is_net(told))

    def test_counts_are_those_of_both_each_with_each(self):
        for one in nets_on((0, 1, 2)):
            for other in nets_on((3, 4, 5)):
                many = [0] * (len(counts(one)) + len(counts(other)) - 1)
                for size, here in enumerate(counts(one)):
                    for more, there in enumerate(counts(other)):
                        many[size + more] += here * there
                self.assertEqual(counts(joined(one, other)), tuple(many))

    def test_sixty_sides_and_more(self):
        self.assertEqual(len(joined(singles(0, 1, 2, 3, 4, 5), singles(*range(6, 16)))), 60)
        self.assertEqual(len(joined(tuple(combinations(range(6), 3)), singles(6, 7, 8))), 60)
        check_refused(self, "TooMany", joined, singles(0, 1, 2, 3, 4, 5, 6), singles(*range(7, 16)))
        check_refused(self, "TooMany", joined, singles(*range(8)), singles(*range(8, 16)))
        check_refused(self, "TooMany", joined, singles(0, 1), tuple(combinations(range(2, 11), 2)))

    def test_just_one_more_than_sixty(self):
        check_refused(self, "TooMany", joined, tuple(combinations(range(12), 2))[:31], singles(14, 15))
        self.assertEqual(len(joined(tuple(combinations(range(12), 2))[:30], singles(14, 15))), 60)

    def test_sides_of_six_points_and_of_seven(self):
        self.assertEqual(joined(((0, 1, 2),), ((3, 4, 5),)), (SIX,))
        self.assertEqual(joined(((0, 1, 2, 3, 5),), ((4,),)), (SIX,))
        check_refused(self, "TooMany", joined, (SIX,), ((6,),))
        check_refused(self, "TooMany", joined, ((6,),), (SIX,))
        check_refused(self, "TooMany", joined, ((0, 1, 2, 3),), ((4, 5, 6),))

    def test_one_side_of_seven_among_lesser_ones(self):
        check_refused(self, "TooMany", joined, ((0, 1, 2, 3), (0, 4)), ((5,), (6, 7, 8)))
        check_refused(self, "TooMany", joined, ((0, 4), (1, 2, 3, 4)), ((5, 6, 7), (8,)))

    def test_a_common_point(self):
        check_refused(self, "NotApart", joined, TRIANGLE, TRIANGLE)
        check_refused(self, "NotApart", joined, TRIANGLE, ((2, 3),))
        check_refused(self, "NotApart", joined, ((2, 3),), TRIANGLE)
        check_refused(self, "NotApart", joined, ((0, 1), (5, 9)), ((3, 4), (9,)))
        self.assertEqual(joined(POINTLESS, POINTLESS), POINTLESS)

    def test_a_common_point_ahead_of_too_many(self):
        check_refused(self, "NotApart", joined, SIXTY, SIXTY)
        check_refused(self, "NotApart", joined, (SIX,), ((5, 6),))
        check_refused(self, "NotApart", joined, (SIX,), (SIX,))

    def test_no_net_first(self):
        for thing in NOTHINGS + NO_NETS:
            check_refused(self, "NoNet", joined, thing, ((15,),))
            check_refused(self, "NoNet", joined, TRIANGLE, thing)
            check_refused(self, "NoNet", joined, thing, thing)
        check_refused(self, "NoNet", joined, TRIANGLE, TRIANGLE[:2] + ((0, 2),))
        check_refused(self, "NoNet", joined, (SIX + (6,),), ((0,),))


if __name__ == "__main__":
    unittest.main()
