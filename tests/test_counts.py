"""[5]: counts and tally."""

import unittest

from facecounts.nets import counts, tally
from tests.samples import (
    GREATER_NETS, NO_NETS, NOTHINGS, POINTLESS, SIX, SIXTY, SMALL_NETS, TRIANGLE, check_refused, model_faces,
)


class Counts(unittest.TestCase):

    def test_known_ones(self):
        self.assertEqual(counts(TRIANGLE), (1, 3, 3))
        self.assertEqual(counts(POINTLESS), (1,))
        self.assertEqual(counts(((7,),)), (1, 1))
        self.assertEqual(counts((SIX,)), (1, 6, 15, 20, 15, 6, 1))
        self.assertEqual(counts(((0, 1, 2), (2, 3), (4,))), (1, 5, 4, 1))
        self.assertEqual(counts(SIXTY), (1, 16, 60))

    def test_of_each_net(self):
        for net in SMALL_NETS + list(GREATER_NETS):
            sizes = [len(face) for face in model_faces(net)]
            told = counts(net)
            self.assertIs(told.__class__, tuple)
            self.assertEqual(told, tuple(sizes.count(size) for size in range(max(sizes) + 1)), net)

    def test_no_net(self):
        for thing in NOTHINGS + NO_NETS:
            check_refused(self, "NoNet", counts, thing)


class Tally(unittest.TestCase):

    def test_known_ones(self):
        self.assertEqual(tally(TRIANGLE), 0)
        self.assertEqual(tally(POINTLESS), 0)
        self.assertEqual(tally(((7,),)), 1)
        self.assertEqual(tally(((3,), (7,))), 2)
        self.assertEqual(tally((SIX,)), 1)
        self.assertEqual(tally(((0, 1, 2), (0, 1, 3), (0, 2, 3), (1, 2, 3))), 2)
        self.assertEqual(tally(SIXTY), 16 - 60)

    def test_of_each_net(self):
        for net in SMALL_NETS + list(GREATER_NETS):
            sizes = [len(face) for face in model_faces(net) if face]
            self.assertEqual(tally(net), sum(1 if size % 2 else -1 for size in sizes), net)
            self.assertIs(tally(net).__class__, int)

    def test_no_net(self):
        for thing in NOTHINGS + NO_NETS:
            check_refused(self, "NoNet", tally, thing)


if __name__ == "__main__":
    unittest.main()
