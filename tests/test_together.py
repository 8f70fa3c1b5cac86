"""[3]: what is told hangs together."""

import unittest
from itertools import combinations

from facecounts.chosen import bags_above, least_below, most_above
from facecounts.closed import is_closed
from facecounts.crowds import crowd_counts, not_of_crowd, not_of_net
from facecounts.errors import TooMany
from facecounts.firsts import first_crowd, first_net
from facecounts.made import all_rows, barred, greatest_row, least_row, made
from facecounts.nets import counts, joined, ring
from facecounts.rows import by_half, by_steps, is_even, steps, turned, turned_back
from facecounts.stacks import stacked
from facecounts.swaps import change_by, swapped, swaps
from facecounts.texts import read, written
from tests.samples import (
    BORDERS, CIRCLES, CLOSED_NETS, CROWDS, GREAT, GREATER_NETS, JOINED_BORDERS, JOINED_CIRCLES, POINTLESS, SMALL_NETS, WALKS,
    model_faces, model_first_net, nets_on,
)


def each_with_each(one, other):
    """Tell the row of all sums of products whose places come to its places."""
    many = [0] * (len(one) + len(other) - 1)
    for at, here in enumerate(one):
        for more, there in enumerate(other):
            many[at + more] += here * there
    return tuple(many)


class Together(unittest.TestCase):

    def test_turned_and_turned_back_either_way_about(self):
        rows = [tuple((seed * (at + 1) ** 3) % 97 - 48 for at in range(size)) for size in range(1, 13) for seed in range(40)]
        rows += [tuple((-1) ** at * (GREAT - at) for at in range(size)) for size in range(1, 13)]
        rows += [counts(net) for net in SMALL_NETS + list(GREATER_NETS + CLOSED_NETS)]
        for row in rows:
            self.assertEqual(turned_back(turned(row)), row)
            self.assertEqual(turned(turned_back(row)), row)

    def test_turned_again_and_again(self):
        # What is told has more figures than what is handed in has, and may be handed in again.
        row = there = (GREAT,) * 12
        for deed in [turned_back] * 20 + [turned] * 40 + [turned_back] * 20:
            there = deed(there)
        self.assertEqual(there, row)

    def test_counts_of_nets_joined(self):
        shifted = [tuple(tuple(point + 9 for point in side) for side in net) for net in nets_on((0, 1, 2))]
        for one in SMALL_NETS[::3] + list(BORDERS[:4] + CIRCLES[:3]):
            for other in shifted:
                told = counts(joined(one, other)) if len(one) * len(other) <= 60 else None
                if told is not None:
                    self.assertEqual(told, each_with_each(counts(one), counts(other)))
                    # Turned they are so, too, which holds for no other way of turning.
                    self.assertEqual(turned(told), each_with_each(turned(counts(one)), turned(counts(other))))

    def test_counts_of_closed_nets(self):
        for net in CLOSED_NETS:
            row = counts(net)
            width = len(row) - 1
            self.assertIs(is_closed(net), True)
            self.assertIs(is_even(row), True, net)
            self.assertEqual(turned(row), turned(row)[::-1])
            self.assertEqual(by_half(width, row[:width // 2 + 1]), row)
            self.assertEqual(by_steps(width, steps(row)), row)

    def test_counts_of_rings_of_closed_nets(self):
        for net in BORDERS + JOINED_BORDERS + JOINED_CIRCLES:
            for face in sorted(model_faces(net), key=sorted)[::4]:
                self.assertIs(is_even(counts(ring(net, tuple(sorted(face))))), True)

    def test_rings_of_closed_nets_are_closed(self):
        for net in CLOSED_NETS + WALKS:
            for face in sorted(model_faces(net), key=sorted)[::7]:
                inner = ring(net, tuple(sorted(face)))
                self.assertIs(is_closed(inner), True, (net, face))
                self.assertEqual(len(inner[0]), len(net[0]) - len(face))

    def test_a_swap_changes_the_counts_as_told_ahead(self):
        for net in WALKS + JOINED_BORDERS + JOINED_CIRCLES:
            width = len(net[0])
            for swap in swaps(net)[::6]:
                if width <= 5 and len(net) + len(swap[0]) - len(swap[1]) <= 60:
                    ahead = change_by(width, len(swap[1]))
                    due = tuple(number + more for number, more in zip(counts(net), ahead))
                    self.assertEqual(counts(swapped(net, swap)), due)
                    self.assertIs(is_even(ahead), True)

    def test_stacked_nets_are_closed_and_have_the_least_counts(self):
        for width in range(1, 6):
            for places in ((), (0,), (1, 1), (width, 0, width), (1, 0, 1), (0,) * 10):
                net = stacked(width, places)
                self.assertIs(is_closed(net), True)
                if width > 1 and len(places) <= 3:
                    self.assertEqual(counts(net), least_row(width, width + 1 + len(places)))

    def test_each_closed_net_of_few_points(self):
        closed = [net for net in nets_on((0, 1, 2, 3)) if is_closed(net)]
        # (), two of four points six times, four triangles, three squares, and all triples.
        self.assertEqual(len(closed), 1 + 6 + 4 + 3 + 1)
        for net in closed:
            self.assertIs(is_even(counts(net)), True)
        self.assertIn(POINTLESS, closed)

    def test_no_counts_grow_by_more_than_is_told(self):
        for net in SMALL_NETS + list(GREATER_NETS + CLOSED_NETS):
            row = counts(net)
            for size in range(1, len(row) - 1):
                self.assertLessEqual(row[size + 1], most_above(row[size], size))
                self.assertGreaterEqual(row[size], least_below(row[size + 1], size + 1))
        for points in range(1, 7):
            row = counts(tuple(combinations(range(7), points)))
            for size in range(1, points):
                self.assertEqual(row[size + 1], most_above(row[size], size))

    def test_no_counts_of_crowds_grow_by_more_than_is_told(self):
        for crowd in CROWDS:
            row = crowd_counts(crowd)
            self.assertIs(not_of_crowd(row), None)
            for size in range(1, len(row) - 1):
                self.assertLessEqual(row[size + 1], bags_above(row[size], size))

    def test_the_first_net_of_a_nets_counts(self):
        made_ones = 0
        for net in SMALL_NETS + list(GREATER_NETS + CLOSED_NETS):
            row = counts(net)
            self.assertIs(not_of_net(row), None)
            try:
                first = first_net(row)
            except TooMany:
                # The first one may have more sides than the net itself.
                self.assertGreater(len(model_first_net(row)), 60)
                continue
            made_ones += 1
            self.assertEqual(counts(first), row)
            self.assertEqual(first_net(counts(first)), first)
        self.assertGreater(made_ones, 190)

    def test_the_first_crowd_of_a_crowds_counts(self):
        for crowd in CROWDS:
            first = first_crowd(crowd_counts(crowd))
            self.assertEqual(crowd_counts(first), crowd_counts(crowd))
            self.assertEqual(first_crowd(crowd_counts(first)), first)

    def test_first_ones_grow_by_just_so_much(self):
        for points in range(1, 8):
            row = [1, points]
            while len(row) < 7:
                row.append(most_above(row[-1], len(row) - 1))
            self.assertEqual(counts(first_net(tuple(row))), tuple(number for number in row if number))
        for numbers, size in ((1, 7), (2, 7), (3, 7), (4, 6), (5, 5), (6, 4), (16, 3)):
            row = [1, numbers]
            while len(row) < size:
                row.append(bags_above(row[-1], len(row) - 1))
            self.assertEqual(crowd_counts(first_crowd(tuple(row))), tuple(row))

    def test_a_net_made_of_steps_has_them(self):
        for width in range(2, 6):
            for points in range(width + 1, width + 5):
                rows = all_rows(width, points)
                for row in rows:
                    net = made(width, steps(row))
                    self.assertIs(is_closed(net), True)
                    self.assertEqual(read(written(net)), net)
                    self.assertEqual(counts(net), row)
                    self.assertEqual(steps(counts(net)), steps(row))
                    self.assertIn(counts(net), rows)
                    self.assertIs(barred(counts(net)), None)
                    for low, here, high in zip(least_row(width, points), row, greatest_row(width, points)):
                        self.assertTrue(low <= here <= high)


if __name__ == "__main__":
    unittest.main()
