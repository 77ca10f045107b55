"""Promise [19]: nets whose ties are read one by one."""

import itertools
import random
import unittest

from levelties.errors import InvalidReadings, NoTie, Refused
from levelties.live import Live
from levelties.nets import Net
from levelties.readings import heights, read
from tests.helpers import (BARBELL, DOUBLED, FULL, LARGEST, NAMED, ONE, PAIR, ROW, SQUARE, TRIPLE, all_tuples,
                           any_values, clumps, is_number_of, joined_over, some_nets)

NETS = NAMED + some_nets(20, 71)
WRONG_PAIRS = [None, 3, "ab", (), (0,), (0, 1, 2), [0, 1], {0: 1}, (5, 1), (-1, 1), (True, 1), ("0", 1), (None, 1),
               ((0,), 1), (0, True), (0, None), (0, "1"), (0, [1]), (0, PAIR), (0, (1,))]


class OwnError(Exception):
    """What only a test raises."""


class Model:
    """What a live net must tell, kept the slow way: all readings ahead of each deed."""

    def __init__(self, net):
        self.net = net
        self.known = {}
        self.ahead = []

    def keep_all(self, pairs):
        self.ahead.append(dict(self.known))
        found = []
        for at, value in pairs:
            self.known[at] = value
            found.append(self.places() is not None)
        return tuple(found)

    def drop(self, at):
        self.ahead.append(dict(self.known))
        del self.known[at]

    def undo(self):
        if not self.ahead:
            return False
        self.known = self.ahead.pop()
        return True

    def places(self):
        return clumps(self.net, self.known, [at for at in range(len(self.net)) if at not in self.known])

    def between(self, a, b):
        places = self.places()
        if places is None or places[a][0] != places[b][0]:
            return None
        return places[b][1] - places[a][1]

    def left(self):
        return tuple(at for at, (a, b) in enumerate(self.net.ties)
                     if at not in self.known and self.between(a, b) is not None)


def state(live):
    """All that a live net tells."""
    posts = range(live.net.posts)
    return (str(live.net), live.known, live.left, len(live),
            [live.between(a, b) for a in posts for b in posts])


class LiveTest(unittest.TestCase):

    def refuse(self, live, kind, at, method, *arguments):
        """Check that a call is refused, and changes nothing."""
        before = state(live)
        with self.assertRaises(kind) as caught:
            getattr(live, method)(*arguments)
        self.assertIs(type(caught.exception), kind)
        self.assertIs(caught.exception.at, at)
        self.assertEqual(state(live), before)

    def check(self, live, model):
        """Check that a live net tells what its model does."""
        self.assertEqual(live.known, tuple(sorted(model.known.items())))
        self.assertEqual(live.left, model.left())
        self.assertTrue(all_tuples(live.known) and all_tuples(live.left))
        self.assertEqual(len(live), len(model.ahead))
        for a, b in itertools.product(range(live.net.posts), repeat=2):
            self.assertEqual(live.between(a, b), model.between(a, b))


class KeepTest(LiveTest):

    def test_new(self):
        for net in NETS:
            live = Live(net)
            self.assertIs(live.net, net)
            self.assertEqual((live.known, live.left, len(live)), ((), (), 0))
            self.assertEqual({"net", "known", "left"} - set(vars(live)), set())
            for a, b in itertools.product(range(net.posts), repeat=2):
                self.assertEqual(live.between(a, b), 0 if a == b else None)

    def test_readings_kept(self):
        live = Live(SQUARE)
        self.assertIs(live.keep(1, -1), True)
        self.assertIs(live.keep(0, 2), True)
        self.assertEqual((live.known, live.left, len(live)), (((0, 2), (1, -1)), (4,), 2))
        self.assertEqual((live.between(2, 0), live.between(0, 2), live.between(0, 3)), (-1, 1, None))
        self.assertIs(live.keep(4, 8), False)
        self.assertEqual((live.known, live.left), (((0, 2), (1, -1), (4, 8)), ()))
        self.assertEqual([live.between(a, 1) for a in range(4)], [None] * 4)

    def test_in_the_place_of_an_earlier_one(self):
        live = Live(TRIPLE)
        self.assertEqual([live.keep(0, 5), live.keep(1, 5), live.keep(1, -5), live.keep(1, -5)],
                         [True, False, True, True])
        self.assertEqual((live.known, live.left, live.between(0, 1), len(live)), (((0, 5), (1, -5)), (2,), 5, 4))

    def test_readings_that_do_not_agree_so_far(self):
        live = Live(BARBELL)
        self.assertEqual([live.keep(0, 1), live.keep(1, 1), live.keep(2, 1)], [True, True, False])
        self.assertEqual((live.keep(3, 4), live.left, live.between(3, 4), live.between(3, 3)), (False, (), None, None))
        self.assertEqual((live.keep(2, -2), live.left, live.between(4, 3)), (True, (), -4))

    def test_no_tie(self):
        for net in (ONE, ROW, SQUARE):
            live = Live(net)
            for value in [*any_values(), len(net), -1]:
                if not is_number_of(value, len(net)):
                    self.refuse(live, NoTie, value, "keep", value, 3)
                    self.refuse(live, NoTie, value, "keep", value, None)

    def test_no_integer(self):
        live = Live(SQUARE)
        live.keep(3, 5)
        for value in any_values():
            if type(value) is not int:
                for at in range(5):
                    self.refuse(live, InvalidReadings, at, "keep", at, value)
            else:
                self.assertIs(live.keep(3, value), True)
                self.assertEqual(live.known, ((3, value),))

    def test_all_right_readings(self):
        source = random.Random(72)
        for net in NETS:
            right = read(net, [source.randint(-999999999, 999999999) for _ in range(net.posts)])
            live = Live(net)
            for at in source.sample(range(len(net)), len(net)):
                self.assertIs(live.keep(at, right[at]), True)
                for other in live.left:
                    self.assertEqual(live.between(*net[other]), right[other])
            self.assertEqual(live.left, ())
            levels = heights(net, right)
            for a, b in itertools.product(range(net.posts), repeat=2):
                self.assertEqual(live.between(a, b), levels[b] - levels[a])

    def test_objects_are_not_iterable(self):
        live = Live(PAIR)
        live.keep(0, 1)
        for use in (iter, list, reversed, lambda one: 0 in one):
            with self.assertRaises(TypeError):
                use(live)


class DropTest(LiveTest):

    def test_readings_forgotten(self):
        live = Live(SQUARE)
        live.several([(0, 2), (1, -1), (4, 8)])
        self.assertIsNone(live.drop(4))
        self.assertEqual((live.known, live.left, live.between(0, 2), len(live)), (((0, 2), (1, -1)), (4,), 1, 2))
        self.assertIsNone(live.drop(0))
        self.assertEqual((live.known, live.left, live.between(0, 2)), (((1, -1),), (), None))
        live.drop(1)
        self.assertEqual((live.known, len(live)), ((), 4))

    def test_no_tie(self):
        for net, known in ((ONE, []), (ROW, [(1, 0)]), (SQUARE, [(0, 2), (4, 3)]), (PAIR, [])):
            live = Live(net)
            live.several(known)
            for value in [*any_values(), *range(-1, len(net) + 1)]:
                if type(value) is not int or value not in dict(known):
                    self.refuse(live, NoTie, value, "drop", value)
            for at, _ in known:
                live.drop(at)
                self.refuse(live, NoTie, at, "drop", at)


class SeveralTest(LiveTest):

    def test_several(self):
        for kind in (list, tuple):
            live = Live(SQUARE)
            self.assertEqual(live.several(kind([(4, 8), (0, 2), (1, -1), (4, 1)])), (True, True, False, True))
            self.assertEqual((live.known, live.left, len(live)), (((0, 2), (1, -1), (4, 1)), (), 1))

    def test_none(self):
        for net in (ONE, SQUARE):
            live = Live(net)
            self.assertEqual((live.several([]), live.several(()), len(live)), ((), (), 2))
            self.assertEqual((live.undo(), live.undo(), live.undo(), live.known), (True, True, False, ()))

    def test_no_sequence(self):
        live = Live(SQUARE)
        live.keep(2, 7)
        for value in any_values():
            if type(value) not in (list, tuple):
                self.refuse(live, Refused, 0, "several", value)
        self.refuse(live, Refused, 0, "several", {(0, 1): 1})

    def test_no_pair(self):
        live = Live(SQUARE)
        live.keep(2, 7)
        for value in WRONG_PAIRS:
            self.refuse(live, Refused, 0, "several", [value])
            self.refuse(live, Refused, 0, "several", (value, (0, 1), None))
            self.refuse(live, Refused, 2, "several", [(0, 1), (2, 3), value, value])

    def test_any_values(self):
        for value in any_values():
            live = Live(PAIR)
            pair = type(value) is tuple and len(value) == 2 and is_number_of(value[0], 1) and type(value[1]) is int
            if pair:
                self.assertEqual(live.several([(0, 5), value]), (True, True))
                self.assertEqual(live.known, (value,))
            else:
                self.refuse(live, Refused, 1, "several", [(0, 5), value])

    def test_later_changes_have_no_effect(self):
        pairs = [(0, 2), (1, -1)]
        live = Live(SQUARE)
        result = live.several(pairs)
        self.assertEqual(pairs, [(0, 2), (1, -1)])
        pairs.append((4, 8))
        pairs[0] = (3, 3)
        self.assertEqual((result, live.known), ((True, True), ((0, 2), (1, -1))))


class UndoTest(LiveTest):

    def test_nothing(self):
        live = Live(SQUARE)
        self.assertIs(live.undo(), False)
        self.assertEqual((len(live), live.known), (0, ()))

    def test_each_deed(self):
        live = Live(SQUARE)
        states = [state(live)]
        for deed in (lambda: live.keep(0, 2), lambda: live.several([(1, -1), (0, 3), (4, 9)]), lambda: live.drop(1),
                     lambda: live.several([]), lambda: live.keep(0, 3), lambda: live.drop(0)):
            deed()
            states.append(state(live))
        self.assertEqual(len(live), 6)
        for wanted in states[-2::-1]:
            self.assertIs(live.undo(), True)
            self.assertEqual(state(live), wanted)
        for _ in range(3):
            self.assertIs(live.undo(), False)
            self.assertEqual(state(live), states[0])
        self.assertIs(live.keep(2, 1), True)
        self.assertEqual((len(live), live.undo(), live.known), (1, True, ()))

    def test_refused_deeds_do_not_count(self):
        live = Live(ROW)
        live.keep(0, 1)
        self.refuse(live, NoTie, 3, "keep", 3, 1)
        self.refuse(live, NoTie, 2, "drop", 2)
        self.refuse(live, Refused, 1, "several", [(1, 1), (3, 1)])
        self.assertEqual((live.undo(), live.undo(), live.known), (True, False, ()))


class WithinTest(LiveTest):

    def start(self):
        """A live net with two deeds."""
        live = Live(SQUARE)
        live.keep(0, 2)
        live.keep(1, -1)
        return live

    def test_result(self):
        live = self.start()
        before = state(live)
        thing = [object()]
        self.assertIs(live.within(lambda one: thing), thing)
        self.assertIsNone(live.within(lambda one: None))
        self.assertIs(live.within(lambda one: one), live)
        self.assertEqual(live.within(lambda one: (one.keep(4, 8), one.known, len(one))),
                         (False, ((0, 2), (1, -1), (4, 8)), 3))
        self.assertEqual(state(live), before)

    def test_all_is_as_it_was(self):
        def work(one):
            one.several([(3, 1), (4, 1), (2, 9)])
            one.drop(0)
            for _ in range(9):
                one.undo()
            self.assertEqual((len(one), one.known), (0, ()))
            one.keep(2, 7)
            return one.left

        live = self.start()
        before = state(live)
        self.assertEqual(live.within(work), ())
        self.assertEqual(state(live), before)
        self.assertEqual([live.undo() for _ in range(3)], [True, True, False])
        self.assertEqual(live.known, ())

    def test_errors_go_on(self):
        live = self.start()
        before = state(live)
        error = OwnError("of its own")

        def work(one):
            one.keep(0, 9)
            one.undo()
            one.undo()
            raise error

        with self.assertRaises(OwnError) as caught:
            live.within(work)
        self.assertIs(caught.exception, error)
        self.assertEqual(state(live), before)
        for kind, wrong in ((NoTie, lambda one: (one.keep(3, 3), one.drop(2))),
                            (InvalidReadings, lambda one: (one.drop(0), one.keep(1, None))),
                            (Refused, lambda one: (one.undo(), one.several(3))),
                            (KeyboardInterrupt, self.interrupted)):
            with self.assertRaises(kind):
                live.within(wrong)
            self.assertEqual(state(live), before)

    def interrupted(self, live):
        live.drop(0)
        raise KeyboardInterrupt

    def test_works_within_works(self):
        live = self.start()
        states = []

        def inner(one):
            one.undo()
            one.keep(3, 3)
            states.append(state(one))
            raise OwnError

        def outer(one):
            one.drop(1)
            before = state(one)
            self.assertRaises(OwnError, one.within, inner)
            self.assertEqual(state(one), before)
            self.assertEqual(one.within(lambda again: again.within(lambda last: last.keep(4, 0))), True)
            self.assertEqual(state(one), before)
            return len(one)

        before = state(live)
        self.assertEqual(live.within(outer), 3)
        self.assertEqual(state(live), before)
        self.assertEqual(states[0][1], ((0, 2), (1, -1), (3, 3)))

    def test_other_live_nets_are_free(self):
        live, other = self.start(), Live(SQUARE)
        live.within(lambda one: (one.drop(0), other.keep(3, 3)))
        self.assertEqual((len(live), other.known), (2, ((3, 3),)))


class ModelTest(LiveTest):

    def one_deed(self, live, model, source):
        """One deed, or an undo, with both; what they return is the same."""
        ties = range(len(live.net))
        choice = source.random()
        pairs = [(at, source.randint(-2, 2)) for at in source.choices(ties, k=source.randint(0, 3))]
        if choice < 0.5:
            self.assertEqual((live.keep(*pairs[0]),) if pairs else live.several([]), model.keep_all(pairs[:1]))
        elif choice < 0.65:
            self.assertEqual(live.several(pairs), model.keep_all(pairs))
        elif choice < 0.85 and model.known:
            at = source.choice(sorted(model.known))
            self.assertIs(live.drop(at), model.drop(at))
        else:
            self.assertIs(live.undo(), model.undo())

    def test_sixty_deeds(self):
        source = random.Random(73)
        for net in [net for net in NETS if len(net) > 0]:
            live, model = Live(net), Model(net)
            for _ in range(60):
                self.one_deed(live, model, source)
                self.check(live, model)
            while model.ahead:
                self.assertIs(live.undo(), model.undo())
                self.check(live, model)
            self.assertIs(live.undo(), False)

    def test_beyond_the_limits(self):
        live = Live(DOUBLED)
        for at in range(200):
            live.keep(at % 5, at)
        self.assertEqual(len(live), 200)
        self.assertEqual([live.undo() for _ in range(201)], [True] * 200 + [False])
        live.several([(at % 5, 0) for at in range(200)])
        self.assertEqual((len(live), live.between(0, 2)), (1, 0))

    def test_joined_over_and_over(self):
        net = joined_over(LARGEST, [(0, 0), (1, 1)])
        right = read(net, list(range(net.posts)))
        live = Live(net)
        for _ in range(3):
            self.assertEqual(live.several(list(enumerate(right))[:100])[-1], True)
        self.assertIs(live.keep(0, 7 * right[0] + 7), False)
        self.assertEqual((live.undo(), live.between(0, 5), len(live)), (True, 5, 3))

    def test_two_live_nets_of_one_net(self):
        one, other = Live(FULL), Live(FULL)
        one.keep(0, 5)
        self.assertEqual((other.known, len(other), FULL.ties), ((), 0, Net(4, FULL.ties).ties))
        self.assertFalse(one == other)


if __name__ == "__main__":
    unittest.main()
