"""[22], [23]: swaps of closed nets, and what they do to the counts."""

import unittest
from itertools import combinations
from random import Random

from facecounts.closed import is_closed
from facecounts.made import made
from facecounts.nets import counts, is_net, joined
from facecounts.rows import steps
from facecounts.swaps import change_by, is_swap, swapped, swaps
from tests.samples import (
    BORDERS, CIRCLES, CLOSED_IN_PARTS, CLOSED_NETS, GREAT, JOINED_BORDERS, NO_NETS, NO_PARTS, NO_WHOLES, NOTHINGS, POINTLESS,
    SMALL_NETS, TRIANGLE, UNLEVEL_NETS, WALKS, border_of, check_refused, circle, model_is_swap, model_swapped, model_swaps,
    renamed, rows_taken, subsets, swapped_in, walk,
)

OPEN_NETS = UNLEVEL_NETS + tuple(net for net in SMALL_NETS if not is_closed(net)) + (
    TRIANGLE[1:], JOINED_BORDERS[1][1:], ((0,), (1,), (2,)), ((0,),), ((0, 1, 2, 3, 4, 5),))
SOME_NETS = CLOSED_NETS + WALKS
TRIANGLE_APART = ((5, 6), (5, 7), (6, 7))


def all_pairs(net, points):
    """Tell all swaps of a net, with each face of these points gone through for out and for into."""
    some = [part for part in subsets(points) if len(part) <= 6]
    return sorted((out, into) for out in some for into in some
                  if len(out) + len(into) == len(net[0]) + 1 and model_is_swap(net, out, into))


class Swaps(unittest.TestCase):

    def test_known_ones(self):
        for net, told in (
            (POINTLESS, []),
            (((0,), (1,)), [((0,), (2,)), ((1,), (2,))]),
            (((0,), (2,)), [((0,), (1,)), ((2,), (1,))]),
            (((3,), (15,)), [((3,), (0,)), ((15,), (0,))]),
            (TRIANGLE, [((0, 1), (3,)), ((0, 2), (3,)), ((1, 2), (3,))]),
            (circle(0, 1, 2, 3), [((0,), (1, 3)), ((0, 1), (4,)), ((0, 3), (4,)), ((1,), (0, 2)), ((1, 2), (4,)), ((2,), (1, 3)),
                                  ((2, 3), (4,)), ((3,), (0, 2))]),
            (border_of((0, 1, 2, 3)), [((0, 1, 2), (4,)), ((0, 1, 3), (4,)), ((0, 2, 3), (4,)), ((1, 2, 3), (4,))]),
            (joined(((0,), (1,)), TRIANGLE_APART), [
                ((0,), (5, 6, 7)), ((0, 5, 6), (2,)), ((0, 5, 7), (2,)), ((0, 6, 7), (2,)), ((1,), (5, 6, 7)),
                ((1, 5, 6), (2,)), ((1, 5, 7), (2,)), ((1, 6, 7), (2,)), ((5, 6), (0, 1)), ((5, 7), (0, 1)), ((6, 7), (0, 1))]),
        ):
            self.assertEqual(swaps(net), told, net)

    def test_all_pairs_of_faces(self):
        for net in BORDERS[:4] + CIRCLES[:2] + JOINED_BORDERS[:1] + CLOSED_IN_PARTS[:1] + WALKS[:8]:
            points = sorted({point for side in net for point in side})
            free = [point for point in range(16) if point not in points][:2]
            self.assertEqual(swaps(net), all_pairs(net, tuple(sorted(points + free))), net)
        for net in (TRIANGLE, ((4,), (9,))):
            some = [part for part in subsets(tuple(range(16))) if len(part) < 3]
            told = sorted((out, into) for out in some for into in some if model_is_swap(net, out, into))
            self.assertEqual(swaps(net), told)

    def test_of_each_closed_net(self):
        seen = set()
        for net in SOME_NETS:
            told = swaps(net)
            self.assertEqual(told, list(model_swaps(net)), net)
            self.assertIs(told.__class__, list)
            self.assertTrue(all(one < other for one, other in zip(told, told[1:])))
            self.assertEqual({part.__class__ for swap in told for part in (swap,) + swap}, {tuple} if told else set())
            seen.update((len(net[0]), len(into)) for out, into in told)
        self.assertTrue({(width, size) for width in range(1, 6) for size in range(1, width + 1)} <= seen)
        self.assertIn((6, 3), seen)

    def test_points_in_any_order(self):
        for seed, net in enumerate(WALKS[::3] + JOINED_BORDERS[:5]):
            for more in range(3):
                other = renamed(net, 100 * seed + more)
                self.assertEqual(swaps(other), list(model_swaps(other)))
                greater = [len(swap[1]) for swap in swaps(net) if len(swap[1]) > 1]
                self.assertEqual(sorted(greater), sorted(len(swap[1]) for swap in swaps(other) if len(swap[1]) > 1))

    def test_into_of_one_point_is_the_least_number_that_is_no_point(self):
        for points, free in (((0, 1, 2), 3), ((1, 2, 3), 0), ((0, 2, 3), 1), ((0, 1, 15), 2), ((13, 14, 15), 0)):
            self.assertEqual(swaps(border_of(points)), [(pair, (free,)) for pair in border_of(points)])
            for other in range(-1, 17):
                self.assertIs(is_swap(border_of(points), (points[:2], (other,))), other == free)

    def test_no_point_above_15(self):
        fifteen = circle(*range(15))
        self.assertIn(((0, 1), (15,)), swaps(fifteen))
        sixteen = circle(*range(16))
        self.assertEqual(swaps(sixteen), sorted(((at,), tuple(sorted(((at - 1) % 16, (at + 1) % 16)))) for at in range(16)))
        for other in range(18):
            self.assertIs(is_swap(sixteen, ((0, 1), (other,))), False)
            check_refused(self, "NoSwap", swapped, sixteen, ((0, 1), (other,)))

    def test_into_is_no_face_of_the_net(self):
        # Each two points are a pair, so no pair comes, though its two points are just the ring.
        full = border_of((0, 1, 2, 3, 4))
        self.assertEqual({len(into) for out, into in swaps(full)}, {1})
        for out in combinations(range(5), 3):
            into = tuple(point for point in range(5) if point not in out)
            self.assertIs(is_swap(full, (out, into)), False)

    def test_rings_that_have_more_than_lies_in_into(self):
        # The ring of a point is a circle of four, of a pair two points in each of two parts.
        eight = JOINED_BORDERS[1]
        self.assertEqual([swap for swap in swaps(eight) if len(swap[0]) == 1], [])
        self.assertEqual(len([swap for swap in swaps(eight) if len(swap[0]) == 2]), 12)

    def test_the_list_is_the_askers_own(self):
        for net in SOME_NETS[::5]:
            told = swaps(net)
            kept = swaps(net)
            due = list(told)
            self.assertIsNot(told, kept)
            told.append(None)
            del told[0]
            self.assertEqual(kept, due)
            self.assertEqual(swaps(net), due)

    def test_not_all_faces_are_gone_through(self):
        for net in (JOINED_BORDERS[3], JOINED_BORDERS[6], WALKS[-1], joined(circle(0, 1, 2, 3, 4, 5), circle(*range(6, 16)))):
            found = swaps(net)
            rows_taken(swaps, (net,), 1000000)
            for swap in found[:2]:
                rows_taken(is_swap, (net, swap), 200000)

    def test_refusals(self):
        for thing in NOTHINGS + NO_NETS:
            check_refused(self, "NoNet", swaps, thing)
        for net in OPEN_NETS:
            check_refused(self, "NotClosed", swaps, net)


def with_point_otherwise(swap):
    """Tell the swap with one point of one face otherwise."""
    found = []
    for at in (0, 1):
        for place in range(len(swap[at])):
            for point in (swap[at][place] - 1, swap[at][place] + 1, 15, 16, -1, GREAT) + NO_PARTS:
                face = swap[at][:place] + (point,) + swap[at][place + 1:]
                found.append((face, swap[1]) if at == 0 else (swap[0], face))
    return found


class IsSwap(unittest.TestCase):

    def check_of(self, net, thing, due):
        """Hold that the thing is a swap just where it is due."""
        self.assertIs(is_swap(net, thing), due, (net, thing))
        if not due:
            check_refused(self, "NoSwap", swapped, net, thing)

    def test_swaps(self):
        for net in SOME_NETS:
            for swap in model_swaps(net)[1::2]:
                self.assertIs(is_swap(net, swap), True)

    def test_of_each_pair_of_faces(self):
        for net in BORDERS[1:4] + CIRCLES[:3] + JOINED_BORDERS[:1] + WALKS[5:9]:
            points = tuple(sorted({point for side in net for point in side}))
            some = [part for part in subsets(points + (16,)) + [(0,), (1,), (2,), (15,)] if len(part) <= 4]
            for out in some:
                for into in some:
                    self.assertIs(is_swap(net, (out, into)), model_is_swap(net, out, into), (net, out, into))

    def test_nearly_swaps(self):
        for net in SOME_NETS[1::9]:
            there = {repr(swap) for swap in model_swaps(net)}
            for swap in model_swaps(net)[::9]:
                out, into = swap
                wrong = with_point_otherwise(swap) + [
                    (into, out), (into, into), (out, out), (out, ()), ((), into), (out,), (into,), (), swap + ((),), swap + (into,),
                    [out, into], (list(out), into), (out, list(into)), {0: out, 1: into}, (out[::-1], into), (out, into[::-1]),
                    out + into, (out + into, ()), ((), out + into), (swap,), (swap, swap), [swap], (None, into), (out, None),
                    (out, True), (out[0], into), (out, into[0]), "0,1 3", (str(out), into)]
                for thing in wrong:
                    self.check_of(net, thing, repr(thing) in there)

    def test_truths_are_no_points(self):
        for net, swap in ((((0,), (2,)), ((0,), (1,))), (((2,), (3,)), ((2,), (0,))), (((0, 2), (0, 3), (2, 3)), ((2, 3), (1,)))):
            self.assertIs(is_swap(net, swap), True)
            self.check_of(net, (swap[0], (bool(swap[1][0]),)), False)
        self.check_of(((0,), (2,)), ((False,), (1,)), False)
        self.check_of(circle(0, 1, 2, 3), ((True,), (0, 2)), False)
        self.check_of(circle(0, 1, 2, 3), ((0,), (True, 3)), False)

    def test_turned_about(self):
        for net in SOME_NETS[::3]:
            for out, into in model_swaps(net)[::5]:
                self.check_of(net, (into, out), False)

    def test_anything_else(self):
        for net in (POINTLESS, ((0,), (1,)), TRIANGLE, JOINED_BORDERS[1], BORDERS[-1]):
            for thing in NOTHINGS + ((), ((), ()), ((0,), (0,)), 7, GREAT, ((0, 1), (0, 1)), "(0, 1)", [[0, 1], [3]], net):
                self.check_of(net, thing, False)

    def test_of_width_0_there_are_none(self):
        self.assertEqual(swaps(POINTLESS), [])
        for thing in (((), ()), ((), (0,)), ((0,), ()), ((0,), (1,)), None):
            self.check_of(POINTLESS, thing, False)

    def test_refusals(self):
        for thing in (((0, 1), (3,)), None, [], NO_NETS):
            for other in NOTHINGS + NO_NETS:
                check_refused(self, "NoNet", is_swap, other, thing)
                check_refused(self, "NoNet", swapped, other, thing)
            for net in OPEN_NETS[::3]:
                check_refused(self, "NotClosed", is_swap, net, thing)
                check_refused(self, "NotClosed", swapped, net, thing)


class Swapped(unittest.TestCase):

    def test_known_ones(self):
        for net, swap, told in (
            (((0,), (1,)), ((0,), (2,)), ((1,), (2,))),
            (TRIANGLE, ((0, 1), (3,)), ((0, 2), (0, 3), (1, 2), (1, 3))),
            (circle(0, 1, 2, 3), ((0,), (1, 3)), ((1, 2), (1, 3), (2, 3))),
            (border_of((0, 1, 2, 3)), ((0, 1, 2), (4,)), ((0, 1, 3), (0, 1, 4), (0, 2, 3), (0, 2, 4), (1, 2, 3), (1, 2, 4))),
            (((0, 1, 3), (0, 1, 4), (0, 2, 3), (0, 2, 4), (1, 2, 3), (1, 2, 4)), ((0, 1), (3, 4)),
             ((0, 2, 3), (0, 2, 4), (0, 3, 4), (1, 2, 3), (1, 2, 4), (1, 3, 4))),
        ):
            self.assertEqual(swapped(net, swap), told)

    def test_each_swap_of_each_net(self):
        back = 0
        for net in SOME_NETS:
            for swap in model_swaps(net)[::5]:
                many = len(net) + len(swap[0]) - len(swap[1])
                if many > 60:
                    check_refused(self, "TooMany", swapped, net, swap)
                    continue
                told = swapped(net, swap)
                self.assertEqual(told, model_swapped(net, swap), (net, swap))
                self.assertEqual(len(told), many)
                self.assertIs(is_net(told), True)
                self.assertIs(is_closed(told), True)
                if len(swap[0]) > 1:
                    back += 1
                    self.assertIn(swap[::-1], swaps(told))
                    self.assertEqual(swapped(told, swap[::-1]), net)
        self.assertGreater(back, 300)

    def test_the_way_back_where_out_has_one_point(self):
        # The point that went is not always the least number that is no point then.
        self.assertIs(is_swap(swapped(circle(0, 1, 2, 3), ((3,), (0, 2))), ((0, 2), (3,))), True)
        net = circle(0, 1, 2, 5)
        there = swapped(net, ((5,), (0, 2)))
        self.assertIs(is_swap(there, ((0, 2), (5,))), False)
        self.assertIs(is_swap(there, ((0, 2), (3,))), True)

    def test_sixty_sides_and_more(self):
        seen = set()
        nets = [made(4, (1, more, some)) for more, some in ((8, 28), (9, 24), (8, 31), (9, 25), (9, 26), (9, 27), (9, 28), (7, 28))]
        nets += [made(5, (1, 8, 11)), made(5, (1, 7, 12)), made(5, (1, 9, 9)), made(5, (1, 9, 8))]
        nets += [joined(circle(0, 1, 2, 3, 4, 5), circle(*range(6, 16))), joined(circle(0, 1, 2, 3, 4, 5), circle(*range(6, 15)))]
        for net in nets + walk(nets[1], 3, 2):
            for swap in swaps(net)[::2]:
                many = len(net) + len(swap[0]) - len(swap[1])
                seen.add(many)
                if many > 60:
                    check_refused(self, "TooMany", swapped, net, swap)
                    self.assertIs(is_swap(net, swap), True)
                elif many > 58:
                    self.assertEqual(swapped(net, swap), model_swapped(net, swap))
        self.assertTrue({59, 60, 61, 62, 63} <= seen, seen)

    def test_no_swap_ahead_of_too_many(self):
        net = made(4, (1, 9, 28))
        self.assertEqual(len(net), 60)
        check_refused(self, "TooMany", swapped, net, (net[0], (14,)))
        for into in ((15,), (13,), (0,), (), [14], (14, 15), None):
            check_refused(self, "NoSwap", swapped, net, (net[0], into))

    def test_no_swap(self):
        for net in SOME_NETS[::9]:
            for thing in NOTHINGS:
                check_refused(self, "NoSwap", swapped, net, thing)


class ChangeBy(unittest.TestCase):

    def test_known_ones(self):
        for width, size, told in (
            (1, 1, (0, 0)), (2, 1, (0, 1, 1)), (2, 2, (0, -1, -1)), (3, 1, (0, 1, 3, 2)), (3, 2, (0, 0, 0, 0)),
            (3, 3, (0, -1, -3, -2)), (4, 1, (0, 1, 4, 6, 3)), (4, 2, (0, 0, 1, 2, 1)), (4, 3, (0, 0, -1, -2, -1)),
            (4, 4, (0, -1, -4, -6, -3)), (5, 1, (0, 1, 5, 10, 10, 4)), (5, 2, (0, 0, 1, 4, 5, 2)), (5, 3, (0, 0, 0, 0, 0, 0)),
            (5, 4, (0, 0, -1, -4, -5, -2)), (5, 5, (0, -1, -5, -10, -10, -4)),
        ):
            self.assertEqual(change_by(width, size), told)
            self.assertIs(change_by(width, size).__class__, tuple)

    def test_against_counts_ahead_and_behind(self):
        seen = set()
        for net in SOME_NETS:
            width = len(net[0])
            for swap in swaps(net)[::3]:
                if width <= 5 and len(net) + len(swap[0]) - len(swap[1]) <= 60:
                    there = counts(swapped(net, swap))
                    change = tuple(behind - ahead for ahead, behind in zip(counts(net), there))
                    self.assertEqual(change_by(width, len(swap[1])), change)
                    seen.add((width, len(swap[1])))
        self.assertEqual(seen, {(width, size) for width in range(1, 6) for size in range(1, width + 1)})

    def test_steps_are_one_more_and_one_less(self):
        for net in SOME_NETS:
            width = len(net[0])
            for out, into in swaps(net)[::5]:
                if len(net) + len(out) - len(into) <= 60:
                    due = list(steps(counts(net)))
                    if len(into) <= width // 2:
                        due[len(into)] += 1
                    if len(out) <= width // 2:
                        due[len(out)] -= 1
                    self.assertEqual(steps(counts(swapped(net, (out, into)))), tuple(due))

    def test_no_number(self):
        for thing in NO_WHOLES + NOTHINGS + (0, -1, 6, 7, GREAT, -GREAT, (1,), [1]):
            for size in (1, 2, 5, 0, None, True, "1"):
                check_refused(self, "NoNumber", change_by, thing, size)
        for width in range(1, 6):
            for thing in NO_WHOLES + NOTHINGS + (0, -1, width + 1, width + 2, GREAT, -GREAT):
                check_refused(self, "NoNumber", change_by, width, thing)
            for size in range(1, width + 1):
                for thing in swapped_in((width, size), "1") + swapped_in((width, size), True):
                    check_refused(self, "NoNumber", change_by, *thing)


class Walks(unittest.TestCase):

    def test_through_many_nets(self):
        chance = Random(5)
        for width in range(1, 6):
            net = border_of(tuple(range(width + 1)))
            for _ in range(40):
                some = [swap for swap in swaps(net) if len(net) + len(swap[0]) - len(swap[1]) <= 60]
                swap = chance.choice(some)
                due = tuple(number + more for number, more in zip(counts(net), change_by(width, len(swap[1]))))
                net = swapped(net, swap)
                self.assertIs(is_closed(net), True)
                self.assertEqual(counts(net), due)


if __name__ == "__main__":
    unittest.main()
