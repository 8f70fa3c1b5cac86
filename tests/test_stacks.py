"""[24]: stacked nets."""

import unittest
from itertools import product
from random import Random

from facecounts.closed import is_closed
from facecounts.made import least_row
from facecounts.nets import counts, is_net
from facecounts.rows import by_steps
from facecounts.stacks import stacked
from facecounts.swaps import swapped, swaps
from tests.samples import (
    GREAT, NO_PARTS, NO_WHOLES, NOTHINGS, TRIANGLE, border_of, check_refused, model_swapped, swapped_in,
)


def sides_ahead(width, at):
    """Tell how many sides there are ahead of the place number at."""
    return width + 1 + at * (width - 1)


def model_stacked(width, places):
    """Tell the stacked net, by swaps done one by one."""
    net = border_of(tuple(range(width + 1)))
    for place in places:
        points = {point for side in net for point in side}
        net = model_swapped(net, (net[place], (min(set(range(17)) - points),)))
    return net


def some_places(width):
    """Tell tuples of one to ten places: each first, each last, each between, and some of all kinds."""
    found = []
    for many in range(1, 11):
        found.append((0,) * many)
        found.append(tuple(sides_ahead(width, at) - 1 for at in range(many)))
        found.append(tuple(sides_ahead(width, at) // 2 for at in range(many)))
        for seed in range(4):
            chance = Random(100 * many + seed)
            found.append(tuple(chance.randrange(sides_ahead(width, at)) for at in range(many)))
    return found


class Stacked(unittest.TestCase):

    def test_known_ones(self):
        for width, places, net in (
            (1, (), ((0,), (1,))), (1, (0,), ((1,), (2,))), (1, (1,), ((0,), (2,))), (1, (0, 0), ((0,), (2,))),
            (2, (), TRIANGLE), (2, (0,), ((0, 2), (0, 3), (1, 2), (1, 3))), (2, (2,), ((0, 1), (0, 2), (1, 3), (2, 3))),
            (2, (0, 1), ((0, 2), (0, 4), (1, 2), (1, 3), (3, 4))), (3, (), border_of((0, 1, 2, 3))),
            (3, (0,), ((0, 1, 3), (0, 1, 4), (0, 2, 3), (0, 2, 4), (1, 2, 3), (1, 2, 4))),
            (5, (), border_of((0, 1, 2, 3, 4, 5))),
        ):
            self.assertEqual(stacked(width, places), net, (width, places))

    def test_each_first_last_and_between(self):
        for width in range(1, 6):
            self.assertEqual(stacked(width, ()), border_of(tuple(range(width + 1))))
            for places in some_places(width):
                told = stacked(width, places)
                self.assertEqual(told, model_stacked(width, places), (width, places))
                self.assertIs(is_net(told), True)
                self.assertIs(is_closed(told), True)
                self.assertEqual(len(told), sides_ahead(width, len(places)))

    def test_all_of_few_places(self):
        for width in range(1, 6):
            for many in range(3):
                for places in product(*(range(sides_ahead(width, at)) for at in range(many))):
                    self.assertEqual(stacked(width, places), model_stacked(width, places))

    def test_by_the_swap_whose_out_is_the_side(self):
        for width in range(1, 6):
            for places in some_places(width)[:30]:
                net = stacked(width, places[:-1])
                fitting = [swap for swap in swaps(net) if swap[0] == net[places[-1]]]
                self.assertEqual(len(fitting), 1)
                self.assertEqual(stacked(width, places), swapped(net, fitting[0]))

    def test_counts_are_the_least(self):
        for width in range(2, 6):
            for places in [()] + some_places(width):
                more = (0,) * (width // 2 - 1)
                row = counts(stacked(width, places))
                self.assertEqual(row, by_steps(width, (1, len(places)) + more))
                if len(places) <= 3:
                    self.assertEqual(row, least_row(width, width + 1 + len(places)))

    def test_ten_places_of_width_5_reach_to_15(self):
        for place in (0, 3, 5):
            net = stacked(5, (place,) * 10)
            self.assertEqual({point for side in net for point in side}, set(range(16)))

    def test_no_number_first(self):
        for width in NO_WHOLES + NOTHINGS + (0, -1, 6, 7, GREAT, -GREAT, [1], (1,)):
            for places in ((), (0,), (99,), [0], None, True, (True,), (0,) * 11):
                check_refused(self, "NoNumber", stacked, width, places)

    def test_no_tuple_of_at_most_ten(self):
        for width in range(1, 6):
            for thing in NOTHINGS + ([], [0], (0,) * 11, (0,) * 12, (0,) * 2000, 0, 1, "0", "", {0: 0}, ((0,),), ((),)):
                check_refused(self, "NoPlaces", stacked, width, thing)
            for places in ((0,), (0, 1), (1,) * 10):
                check_refused(self, "NoPlaces", stacked, width, list(places))
                for part in NO_PARTS:
                    for thing in swapped_in(places, part):
                        check_refused(self, "NoPlaces", stacked, width, thing)

    def test_places_that_there_are_none_of(self):
        for width in range(1, 6):
            for many in range(10):
                last = sides_ahead(width, many) - 1
                for ahead in ((0,) * many, tuple(sides_ahead(width, at) - 1 for at in range(many))):
                    stacked(width, ahead + (last,))
                    for place in (last + 1, last + 2, -1, -2, -last - 1, GREAT, -GREAT):
                        check_refused(self, "NoPlaces", stacked, width, ahead + (place,))
                        if many < 9:
                            check_refused(self, "NoPlaces", stacked, width, ahead + (place, 0))


if __name__ == "__main__":
    unittest.main()
