"""[1], [2]: of whatever is handed in something is told, over the whole program."""

import copy
import unittest
from random import Random

from facecounts import chosen, closed, crowds, desk, errors, firsts, made, nets, rows, stacks, swaps, texts
from facecounts.bench import Bench
from tests.samples import CROWDS, FULL_CROWD, NO_NETS, NOTHINGS, POINTLESS, REFUSALS, SIXTY, TRIANGLE, WALKS


def say(row):
    """Ask a desk of its own."""
    return desk.Desk().say(row)


def lay(net):
    """Lay a net on a bench of its own, and tell what it keeps."""
    bench = Bench()
    bench.lay(net)
    return bench.net()


def join(net):
    """Join a net on a bench of its own, and tell what it keeps."""
    bench = Bench()
    bench.join(net)
    return bench.net()


def swap_there(swap):
    """Do a swap on a bench of its own, and tell what it keeps."""
    bench = Bench()
    bench.swap(swap)
    return bench.net()


SWAP = ((0, 1), (3,))
# Each question with things that are answered, and the refusals that are due of other things, place by place.
QUESTIONS = (
    (nets.is_net, (TRIANGLE,), ("",)),
    (nets.is_face, (TRIANGLE, (0, 1)), ("NoNet", "")),
    (nets.faces, (TRIANGLE, 1), ("NoNet", "NoNumber")),
    (nets.counts, (TRIANGLE,), ("NoNet",)),
    (nets.tally, (TRIANGLE,), ("NoNet",)),
    (nets.ring, (TRIANGLE, (0,)), ("NoNet NoFace", "NoFace")),
    (nets.without, (TRIANGLE, 0), ("NoNet NoPoint", "NoPoint")),
    (nets.joined, (TRIANGLE, ((5,), (7,))), ("NoNet NotApart TooMany", "NoNet NotApart TooMany")),
    (texts.written, (TRIANGLE,), ("NoNet",)),
    (texts.read, ("0,1 0,2 1,2",), ("NoText",)),
    (rows.is_row, ((1, 3, 3),), ("",)),
    (rows.turned, ((1, 3, 3),), ("NoRow",)),
    (rows.turned_back, ((1, 3, 3),), ("NoRow",)),
    (rows.is_even, ((1, 3, 3),), ("NoRow",)),
    (rows.first_uneven, ((1, 3, 3),), ("NoRow",)),
    (rows.steps, ((1, 3, 3),), ("NoRow",)),
    (rows.by_steps, (2, (1, 3)), ("NoNumber NoRow", "NoRow")),
    (rows.by_half, (2, (1, 3)), ("NoNumber NoRow", "NoRow")),
    (closed.is_level, (TRIANGLE,), ("NoNet",)),
    (closed.is_closed, (TRIANGLE,), ("NoNet",)),
    (closed.balance, (TRIANGLE, (0,)), ("NoNet NoFace", "NoFace")),
    (closed.first_open, (TRIANGLE,), ("NoNet NotLevel",)),
    (closed.border, (TRIANGLE,), ("NoNet NotLevel TooMany",)),
    (chosen.choose, (9, 3), ("NoNumber", "NoNumber")),
    (chosen.writing, (9, 3), ("NoNumber", "NoNumber")),
    (chosen.is_writing, ((4, 3, 2), 9, 3), ("", "NoNumber", "NoNumber")),
    (chosen.most_above, (9, 3), ("NoNumber", "NoNumber")),
    (chosen.least_below, (9, 3), ("NoNumber", "NoNumber")),
    (chosen.bags_above, (9, 3), ("NoNumber", "NoNumber")),
    (crowds.is_crowd, (CROWDS[9],), ("",)),
    (crowds.crowd_counts, (CROWDS[9],), ("NoCrowd",)),
    (crowds.not_of_net, ((1, 3, 3),), ("NoRow",)),
    (crowds.not_of_crowd, ((1, 3, 3),), ("NoRow",)),
    (firsts.first_net, ((1, 3, 3),), ("NoRow NoWay TooMany",)),
    (firsts.first_crowd, ((1, 3, 3),), ("NoRow NoWay TooMany",)),
    (made.barred, ((1, 3, 3),), ("NoRow",)),
    (made.least_row, (4, 7), ("NoNumber", "NoNumber")),
    (made.greatest_row, (4, 7), ("NoNumber", "NoNumber")),
    (made.all_rows, (4, 7), ("NoNumber", "NoNumber")),
    (made.filling, (4, (1, 3, 2)), ("NoNumber NoWay TooMany", "NoWay TooMany")),
    (made.made, (4, (1, 3, 2)), ("NoNumber NoWay TooMany", "NoWay TooMany")),
    (swaps.swaps, (TRIANGLE,), ("NoNet NotClosed",)),
    (swaps.is_swap, (TRIANGLE, SWAP), ("NoNet NotClosed", "")),
    (swaps.swapped, (TRIANGLE, SWAP), ("NoNet NotClosed NoSwap TooMany", "NoSwap TooMany")),
    (swaps.change_by, (4, 2), ("NoNumber", "NoNumber")),
    (stacks.stacked, (3, (0, 4)), ("NoNumber NoPlaces", "NoPlaces")),
    (lay, (TRIANGLE,), ("NoNet NotClosed",)),
    (join, (((5,), (7,)),), ("NoNet NotClosed NotApart TooMany",)),
    (swap_there, (SWAP,), ("NoSwap TooMany",)),
    (say, ("swap 0,1 3",), ("NoLine NoDeed NotClosed NotApart NoSwap TooMany",)),
)


def some_leaf(chance):
    """Tell a number, a truth, None or a text."""
    return chance.choice((
        0, 1, 2, 3, 4, 15, 16, -1, 10 ** 12, 10 ** 60 - 1, 1 - 10 ** 60, True, False, None, "", "0", "0,1", "net", "lay 7 9",
        " ", "\t", "\n", "~" * 1200, chance.randrange(-5, 20),
    ))


def some_thing(chance, deep):
    """Tell something of at most so many things within one another."""
    kind = chance.randrange(6) if deep else 5
    if kind > 3:
        return some_leaf(chance)
    parts = [some_thing(chance, deep - 1) for _ in range(chance.choice((0, 1, 1, 2, 2, 3, 4)))]
    if kind == 0:
        return parts
    if kind == 1:
        return {chance.choice(("a", 0, 1, True, None, (), (0,))): part for part in parts}
    return tuple(parts)


def nearly(chance, thing):
    """Tell a thing that is otherwise at one place, however deep."""
    if thing.__class__ is tuple and thing and chance.random() < 0.8:
        at = chance.randrange(len(thing))
        how = chance.randrange(6)
        if how == 0:
            return thing[:at] + thing[at + 1:]
        if how == 1:
            return thing[:at] + (some_leaf(chance),) + thing[at:]
        return thing[:at] + (nearly(chance, thing[at]),) + thing[at + 1:]
    if thing.__class__ is tuple:
        return list(thing) if chance.random() < 0.5 else thing + ((),)
    return some_leaf(chance)


def all_things():
    """Tell things of all kinds, the same ones each time."""
    chance = Random(11)
    things = list(NOTHINGS + NO_NETS)
    things += [some_thing(chance, chance.randrange(6)) for _ in range(300)]
    for good in (TRIANGLE, SWAP, (1, 3, 3), (1, 3), CROWDS[9], (0, 1), (0, 4), WALKS[20]):
        things += [nearly(chance, good) for _ in range(40)] + [good]
    things += [tuple(range(2000)), [0] * 2000, ((0,),) * 1999, tuple((at,) for at in range(999)), dict.fromkeys(range(1999))]
    things += [POINTLESS, SIXTY, FULL_CROWD, (1,) * 12, (1,) * 13, "x" * 1200, "0,1 " * 300, "lay " * 300]
    return things


THINGS = all_things()


def answer(deed, things):
    """Tell what is answered, or the name of the refusal."""
    try:
        return deed(*things)
    except errors.FaceError as refusal:
        return ("refused", refusal.__class__.__name__)


class Anything(unittest.TestCase):

    def each_question(self):
        """Tell each question with each thing at each place, and the refusals that may be due."""
        for deed, good, due in QUESTIONS:
            for at, names in enumerate(due):
                for thing in THINGS:
                    yield deed, good[:at] + (thing,) + good[at + 1:], names.split()

    def test_good_things_are_answered(self):
        for deed, good, due in QUESTIONS:
            self.assertEqual(len(good), len(due))
            deed(*good)

    def test_something_is_told(self):
        for deed, things, names in self.each_question():
            told = answer(deed, things)
            if told.__class__ is tuple and told[:1] == ("refused",):
                self.assertIn(told[1], names, (deed.__name__, things))
            elif deed.__name__.startswith("is_"):
                self.assertIs(told.__class__, bool)

    def test_what_is_no_such_thing_is_refused(self):
        for deed, good, due in QUESTIONS:
            for at, names in enumerate(due):
                for thing in (None, {}, "~", object(), 1.5, True, [[]], {"a": 1}, (None,), ((), None), [TRIANGLE], b""):
                    told = answer(deed, good[:at] + (thing,) + good[at + 1:])
                    self.assertEqual(told, ("refused", names.split()[0]) if names else False, (deed.__name__, thing))

    def test_nothing_is_changed_and_the_same_is_told_again(self):
        for deed, things, _ in list(self.each_question())[::3]:
            # A plain object has nothing that could be changed, and a copy of it is shown otherwise.
            shown = repr([copy.deepcopy(thing) for thing in things if thing.__class__ is not object])
            told = answer(deed, things)
            self.assertEqual(repr([thing for thing in things if thing.__class__ is not object]), shown)
            self.assertEqual(answer(deed, things), told)

    def test_what_was_told_may_be_handed_in_again(self):
        told = [swaps.swaps(WALKS[-1]), nets.faces(SIXTY, 2), made.all_rows(7, 11), rows.turned_back((10 ** 60 - 1,) * 12)]
        told += [tuple(told[0]), tuple(told[1]), tuple(told[2]), FULL_CROWD, texts.written(WALKS[-1]), swaps.swaps(WALKS[-1]) * 9]
        for thing in told:
            for deed, good, due in QUESTIONS:
                for at, names in enumerate(due):
                    there = answer(deed, good[:at] + (thing,) + good[at + 1:])
                    if there.__class__ is tuple and there[:1] == ("refused",):
                        self.assertIn(there[1], names.split())

    def test_each_refusal_is_due_somewhere(self):
        named = {name for _, _, due in QUESTIONS for names in due for name in names.split()}
        self.assertEqual(named, set(REFUSALS))

    def test_each_question_of_each_module_is_here(self):
        asked = {deed for deed, _, _ in QUESTIONS}
        for module, names in (
            (nets, "is_net is_face faces counts tally ring without joined"), (texts, "written read"),
            (rows, "is_row turned turned_back is_even first_uneven steps by_steps by_half"),
            (closed, "is_level is_closed balance first_open border"),
            (chosen, "choose writing is_writing most_above least_below bags_above"),
            (crowds, "is_crowd crowd_counts not_of_net not_of_crowd"), (firsts, "first_net first_crowd"),
            (made, "barred least_row greatest_row all_rows filling made"), (swaps, "swaps is_swap swapped change_by"),
            (stacks, "stacked"),
        ):
            for name in names.split():
                self.assertIn(getattr(module, name), asked)


if __name__ == "__main__":
    unittest.main()
