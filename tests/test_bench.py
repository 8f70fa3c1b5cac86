"""[25]: a bench that keeps a closed net."""

import unittest
from itertools import combinations
from random import Random

from facecounts import errors
from facecounts.bench import Bench
from facecounts.closed import is_closed
from facecounts.made import made
from facecounts.nets import joined
from facecounts.swaps import swaps
from tests.samples import (
    BORDERS, CIRCLES, CLOSED_NETS, JOINED_BORDERS, NO_NETS, NOTHINGS, POINTLESS, SMALL_NETS, TRIANGLE, UNLEVEL_NETS, WALKS,
    border_of, check_refused, circle, model_joined, model_swapped, model_swaps,
)

OPEN_NETS = UNLEVEL_NETS + tuple(net for net in SMALL_NETS if not is_closed(net))
FAR = ((13,), (14,))


def points_of(net):
    return {point for side in net for point in side}


def model_deed(net, word, thing):
    """Tell the net behind a deed, or the name of the refusal, for nets and pairs of faces that are handed in."""
    if word == "swap":
        if thing not in model_swaps(net):
            return "NoSwap"
        return model_swapped(net, thing) if len(net) + len(thing[0]) - len(thing[1]) <= 60 else "TooMany"
    if not is_closed(thing):
        return "NotClosed"
    if word == "lay":
        return thing
    if points_of(net) & points_of(thing):
        return "NotApart"
    if len(net) * len(thing) > 60 or len(net[0]) + len(thing[0]) > 6:
        return "TooMany"
    return model_joined(net, thing)


def some_thing(chance, net, word):
    """Tell something to do on a bench that keeps this net."""
    if word == "swap":
        some = model_swaps(net) + (((0, 1), (9,)), ((), ()), ((0,), (1,)))
        return chance.choice(some)
    if word == "lay":
        return chance.choice(CLOSED_NETS + WALKS[:40] + UNLEVEL_NETS + (TRIANGLE[1:],))
    free = [point for point in range(16) if point not in points_of(net)]
    some = [border_of(tuple(free[:size])) for size in range(1, 5) if len(free) >= size]
    return chance.choice(some + [POINTLESS, TRIANGLE, FAR, ((0,), (1, 2)), circle(*free) if len(free) > 2 else POINTLESS])


class Deeds(unittest.TestCase):

    def test_the_net_at_first(self):
        self.assertEqual(Bench().net(), ((0, 1), (0, 2), (1, 2)))

    def test_known_ones(self):
        bench = Bench()
        bench.swap(((0, 1), (3,)))
        self.assertEqual(bench.net(), ((0, 2), (0, 3), (1, 2), (1, 3)))
        bench.join(((4,), (5,)))
        self.assertEqual(len(bench.net()), 8)
        bench.lay(((7,), (9,)))
        self.assertEqual(bench.net(), ((7,), (9,)))
        bench.undo()
        self.assertEqual(len(bench.net()), 8)
        bench.undo()
        self.assertEqual(bench.net(), ((0, 2), (0, 3), (1, 2), (1, 3)))
        bench.undo()
        self.assertEqual(bench.net(), TRIANGLE)
        check_refused(self, "NoDeed", bench.undo)

    def test_deeds_give_back_nothing(self):
        bench = Bench()
        self.assertIs(bench.swap(((0, 1), (3,))), None)
        self.assertIs(bench.join(((4,), (5,))), None)
        self.assertIs(bench.lay(TRIANGLE), None)
        self.assertIs(bench.undo(), None)

    def test_each_closed_net_is_laid(self):
        bench = Bench()
        for net in CLOSED_NETS + WALKS:
            bench.lay(net)
            self.assertEqual(bench.net(), net)
        for net in (CLOSED_NETS + WALKS)[-2::-1]:
            bench.undo()
            self.assertEqual(bench.net(), net)

    def test_the_kept_net_laid_again_is_a_deed(self):
        bench = Bench()
        bench.lay(TRIANGLE)
        bench.join(POINTLESS)
        self.assertEqual(bench.net(), TRIANGLE)
        bench.undo()
        bench.undo()
        check_refused(self, "NoDeed", bench.undo)

    def test_deeds_in_any_order(self):
        seen = {}
        for seed in range(25):
            chance = Random(seed)
            bench = Bench()
            past = [TRIANGLE]
            for _ in range(40):
                word = chance.choice(("lay", "swap", "swap", "swap", "join", "undo", "undo"))
                self.do(bench, past, chance, word, seen)
                self.assertEqual(bench.net(), past[-1])
            while len(past) > 1:
                past.pop()
                bench.undo()
                self.assertEqual(bench.net(), past[-1])
            check_refused(self, "NoDeed", bench.undo)
            check_refused(self, "NoDeed", bench.undo)
            self.assertEqual(bench.net(), TRIANGLE)
        # Each deed done, and refused in each way that there is for closed and open nets.
        self.assertEqual(len(seen), 11, seen)

    def do(self, bench, past, chance, word, seen):
        """Do a deed on the bench and in the past alike."""
        if word == "undo":
            due = past[-2] if len(past) > 1 else "NoDeed"
            if len(past) > 1:
                past.pop()
                bench.undo()
            else:
                check_refused(self, "NoDeed", bench.undo)
        else:
            thing = some_thing(chance, past[-1], word)
            due = model_deed(past[-1], word, thing)
            if due.__class__ is str:
                check_refused(self, due, {"lay": bench.lay, "swap": bench.swap, "join": bench.join}[word], thing)
            else:
                {"lay": bench.lay, "swap": bench.swap, "join": bench.join}[word](thing)
                past.append(due)
        name = (word, due if due.__class__ is str else "done")
        seen[name] = seen.get(name, 0) + 1


class Refusals(unittest.TestCase):

    def check_unchanged(self, bench, name, deed, thing):
        """Hold that the deed is refused, that nothing is changed by it, and that it can't be undone."""
        before = bench.net()
        check_refused(self, name, deed, thing)
        self.assertEqual(bench.net(), before)
        bench.lay(((7,), (9,)))
        bench.undo()
        self.assertEqual(bench.net(), before)

    def test_lay(self):
        bench = Bench()
        for thing in NOTHINGS + NO_NETS:
            self.check_unchanged(bench, "NoNet", bench.lay, thing)
        for net in OPEN_NETS:
            self.check_unchanged(bench, "NotClosed", bench.lay, net)
        check_refused(self, "NoDeed", bench.undo)

    def test_swap(self):
        bench = Bench()
        for thing in NOTHINGS + ([(0, 1), (3,)], ((0, 1), (4,)), ((3,), (0, 1)), ((0,), (1, 2)), ((0, 1), (True,)), TRIANGLE):
            self.check_unchanged(bench, "NoSwap", bench.swap, thing)
        check_refused(self, "NoDeed", bench.undo)
        self.assertEqual(bench.net(), TRIANGLE)

    def test_swaps_of_the_kept_net_alone(self):
        bench = Bench()
        bench.swap(((0, 1), (3,)))
        self.check_unchanged(bench, "NoSwap", bench.swap, ((0, 1), (3,)))
        self.check_unchanged(bench, "NoSwap", bench.swap, ((0, 1), (4,)))
        bench.swap(((0, 2), (4,)))
        bench.undo()
        bench.undo()
        bench.swap(((0, 1), (3,)))

    def test_too_many_sides_by_a_swap(self):
        bench = Bench()
        net = made(4, (1, 9, 28))
        bench.lay(net)
        self.check_unchanged(bench, "TooMany", bench.swap, (net[0], (14,)))
        self.check_unchanged(bench, "NoSwap", bench.swap, (net[0], (15,)))
        bench.undo()
        check_refused(self, "NoDeed", bench.undo)

    def test_join(self):
        bench = Bench()
        for thing in NOTHINGS + NO_NETS:
            self.check_unchanged(bench, "NoNet", bench.join, thing)
        for net in OPEN_NETS:
            self.check_unchanged(bench, "NotClosed", bench.join, net)
        for net in (TRIANGLE, ((0,), (1,)), ((2,), (9,)), circle(2, 3, 4, 5), BORDERS[-1]):
            self.check_unchanged(bench, "NotApart", bench.join, net)
        check_refused(self, "NoDeed", bench.undo)

    def test_too_many_by_joining(self):
        bench = Bench()
        bench.lay(circle(0, 1, 2, 3, 4, 5, 6))
        for net in (circle(*range(7, 16)), border_of((7, 8, 9, 10, 11, 12))):
            self.check_unchanged(bench, "TooMany", bench.join, net)
        bench.lay(border_of((0, 1, 2, 3, 4)))
        self.check_unchanged(bench, "TooMany", bench.join, border_of((5, 6, 7, 8)))
        bench.join(border_of((5, 6, 7)))
        self.assertEqual(len(bench.net()), 15)

    def test_which_goes_first(self):
        bench = Bench()
        # Neither closed nor apart, then neither apart nor few enough.
        self.check_unchanged(bench, "NotClosed", bench.join, ((0, 1), (1, 2)))
        self.check_unchanged(bench, "NotClosed", bench.join, tuple(combinations(range(11), 2)))
        bench.lay(circle(*range(10)))
        self.check_unchanged(bench, "NotApart", bench.join, circle(*range(9, 16)))
        self.check_unchanged(bench, "NotApart", bench.join, border_of((9, 10, 11, 12, 13, 14)))
        self.check_unchanged(bench, "NotClosed", bench.join, tuple(combinations(range(10, 16), 2)))

    def test_what_is_refused_cannot_be_undone(self):
        bench = Bench()
        bench.swap(((0, 1), (3,)))
        for _ in range(3):
            check_refused(self, "NoNet", bench.lay, [TRIANGLE])
            check_refused(self, "NotClosed", bench.lay, ((0,),))
            check_refused(self, "NoSwap", bench.swap, None)
            check_refused(self, "NotApart", bench.join, TRIANGLE)
        bench.undo()
        self.assertEqual(bench.net(), TRIANGLE)
        check_refused(self, "NoDeed", bench.undo)
        bench.swap(((0, 1), (3,)))
        bench.undo()
        self.assertEqual(bench.net(), TRIANGLE)

    def test_undoing_is_no_deed_to_undo(self):
        bench = Bench()
        bench.lay(((7,), (9,)))
        bench.undo()
        check_refused(self, "NoDeed", bench.undo)
        self.assertEqual(bench.net(), TRIANGLE)

    def test_each_refusal_is_of_its_own_class(self):
        bench = Bench()
        for name, deed, thing in (("NoNet", bench.lay, None), ("NotClosed", bench.join, ((0,),)), ("NoSwap", bench.swap, 1)):
            with self.assertRaises(errors.FaceError) as caught:
                deed(thing)
            self.assertIs(caught.exception.__class__, getattr(errors, name))


class Apart(unittest.TestCase):

    def test_two_benches_have_nothing_in_common(self):
        one, other = Bench(), Bench()
        one.lay(((7,), (9,)))
        self.assertEqual(other.net(), TRIANGLE)
        check_refused(self, "NoDeed", other.undo)
        other.swap(((0, 1), (3,)))
        one.undo()
        self.assertEqual((one.net(), len(other.net())), (TRIANGLE, 4))
        check_refused(self, "NoDeed", one.undo)
        other.undo()
        self.assertEqual(Bench().net(), TRIANGLE)

    def test_what_is_handed_in_later_is_changed(self):
        bench = Bench()
        sides = [(0, 1), (0, 2), (1, 2), (3, 4)]
        check_refused(self, "NoNet", bench.lay, sides)
        sides.pop()
        self.assertEqual(bench.net(), TRIANGLE)
        check_refused(self, "NoDeed", bench.undo)
        told = swaps(bench.net())
        bench.swap(told[0])
        told.clear()
        self.assertEqual(bench.net(), ((0, 2), (0, 3), (1, 2), (1, 3)))

    def test_the_kept_net_is_told_again_alike(self):
        bench = Bench()
        bench.lay(JOINED_BORDERS[2])
        self.assertEqual(bench.net(), bench.net())
        self.assertEqual(bench.net(), JOINED_BORDERS[2])

    def test_many_deeds_are_undone(self):
        bench = Bench()
        for net in (CIRCLES + BORDERS) * 20:
            bench.lay(net)
        for net in ((CIRCLES + BORDERS) * 20)[-2::-1]:
            bench.undo()
            self.assertEqual(bench.net(), net)
        bench.undo()
        check_refused(self, "NoDeed", bench.undo)

    def test_joined_as_nets_are(self):
        bench = Bench()
        bench.join(((3,), (4,)))
        self.assertEqual(bench.net(), joined(TRIANGLE, ((3,), (4,))))
        self.assertIs(is_closed(bench.net()), True)


if __name__ == "__main__":
    unittest.main()
