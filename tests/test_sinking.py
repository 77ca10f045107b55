"""Promise [16]: posts that sank, or rose, once."""

import random
import unittest

from levelties.errors import InvalidReadings
from levelties.nets import Net
from levelties.readings import agree, read
from levelties.sinking import amounts, sinks
from tests.helpers import (BARBELL, FULL, LARGEST, NAMED, ONE, PAIR, ROW, SQUARE, TRIPLE, clumps, some_nets,
                           wrong_readings, wrong_sequences)

GOOD = (2, -1, 5, -6, 1)
LOW = (2, -1, 5, -3, 1)


def readings_of(net, heights, post, at, change):
    """All readings in their order, if a post is changed just ahead of one of them."""
    now = list(heights)
    found = []
    for number, (a, b) in enumerate(net.ties):
        if number == at:
            now[post] += change
        found.append(now[b] - now[a])
    return tuple(found)


def slow_amounts(net, readings, post, at):
    """The changes that are possible, one by one, as far as small readings can tell; None if all of them are."""
    offered = range(-25, 26)
    nothing = readings_of(net, [0] * net.posts, post, at, 1)
    found = [change for change in offered
             if clumps(net, [one - change * other for one, other in zip(readings, nothing)]) is not None]
    return None if found == list(offered) else tuple(found)


def all_places(net):
    """All pairs of a post and a tie at it."""
    return [(post, at) for post in range(net.posts) for at in net.ties_at(post)]


def some_cases(many, seed):
    """Pairs of a net and readings: right ones, ones of posts that sank, and other wrong ones."""
    source = random.Random(seed)
    found = []
    for net in [net for net in NAMED if net.posts > 1] + some_nets(many, seed):
        heights = [source.randint(-3, 3) for _ in range(net.posts)]
        found.append((net, read(net, heights)))
        found.append((net, wrong_readings(net, source, source.choice((1, 2, 3)))))
        for _ in range(2):
            post, at = source.choice(all_places(net))
            found.append((net, readings_of(net, heights, post, at, source.choice((-4, -1, 1, 2)))))
    return found


class ExampleTest(unittest.TestCase):

    def test_square(self):
        self.assertEqual(sinks(SQUARE, LOW), ((3, 3),))
        self.assertEqual(amounts(SQUARE, LOW, 3, 3), (-3,))
        self.assertEqual(amounts(SQUARE, LOW, 3, 2), ())
        self.assertEqual(amounts(SQUARE, GOOD, 3, 3), (0,))
        self.assertIsNone(amounts(SQUARE, GOOD, 3, 2))


class AmountsTest(unittest.TestCase):

    def test_nothing_to_check_it(self):
        self.assertIsNone(amounts(PAIR, (5,), 0, 0))
        self.assertIsNone(amounts(PAIR, (5,), 1, 0))
        for post, at in all_places(ROW):
            self.assertIsNone(amounts(ROW, (5, -999999999, 0), post, at))

    def test_several_ties_between_two_posts(self):
        self.assertIsNone(amounts(TRIPLE, (3, -3, 3), 0, 0))
        self.assertEqual(amounts(TRIPLE, (3, -3, 3), 0, 1), (0,))
        self.assertEqual(amounts(TRIPLE, (3, 5, -5), 0, 1), (8,))
        self.assertEqual(amounts(TRIPLE, (3, 5, -5), 1, 1), (-8,))
        self.assertEqual(amounts(TRIPLE, (3, 5, -5), 1, 2), ())
        self.assertEqual(amounts(TRIPLE, (3, -3, 4), 1, 2), (1,))
        self.assertEqual(sinks(TRIPLE, (3, -3, 4)), ((0, 2), (1, 2)))

    def test_no_integer(self):
        # Post 0 is left by tie 1 and come to by tie 2, so that it would have sunk by a half.
        net = Net(2, [(0, 1), (0, 1), (1, 0), (0, 1)])
        self.assertEqual(amounts(net, (3, 4, -4, 5), 0, 1), ())
        self.assertEqual(amounts(net, (3, 5, -5, 5), 0, 1), (-2,))
        bridge = Net(3, [(0, 1), (1, 2), (2, 0), (1, 0)])
        self.assertEqual(amounts(bridge, (0, 0, 1, 0), 0, 2), ())

    def test_right_readings(self):
        for net in NAMED:
            right = read(net, range(net.posts))
            for post, at in all_places(net):
                self.assertIn(amounts(net, right, post, at), ((0,), None))
                if at == net.ties_at(post)[0]:
                    self.assertIsNone(amounts(net, right, post, at))

    def test_one_by_one(self):
        for net, readings in some_cases(80, 51):
            for post, at in all_places(net):
                wanted = slow_amounts(net, readings, post, at)
                self.assertEqual(amounts(net, readings, post, at), wanted, (str(net), readings, post, at))

    def test_what_happened_is_possible(self):
        source = random.Random(52)
        for net in NAMED[1:] + some_nets(30, 53):
            heights = [source.randint(-999999999, 999999999) for _ in range(net.posts)]
            for post, at in all_places(net):
                change = source.choice((-999999999, -1, 0, 1, 5, 999999999))
                told = readings_of(net, heights, post, at, change)
                self.assertIn(amounts(net, told, post, at), ((change,), None))
                if not agree(net, told):
                    self.assertIn((post, at), sinks(net, told))

    def test_by_name_and_as_a_list(self):
        self.assertEqual(amounts(at=3, post=3, readings=list(LOW), net=SQUARE), (-3,))
        self.assertEqual(sinks(readings=list(LOW), net=SQUARE), ((3, 3),))


class SinksTest(unittest.TestCase):

    def test_some(self):
        self.assertEqual(sinks(ONE, ()), ())
        self.assertEqual(sinks(PAIR, (5,)), ())
        self.assertEqual(sinks(SQUARE, GOOD), ())
        self.assertEqual(sinks(SQUARE, (2, -1, 5, -3, 2)), ())
        self.assertEqual(sinks(BARBELL, (1, 1, -1, 0, 0, 0, 9)), ((0, 2), (1, 1), (2, 2)))

    def test_pair_by_pair(self):
        for net, readings in some_cases(80, 54):
            possible = {place: slow_amounts(net, readings, *place) for place in all_places(net)}
            wanted = [place for place in sorted(possible) if possible[place] not in (None, (), (0,))]
            self.assertEqual(sinks(net, readings), tuple(wanted))

    def test_large(self):
        net = LARGEST
        for _ in range(4):
            net = net.joined(net, [(0, 0), (1, 1)])
        heights = [post * post for post in range(net.posts)]
        self.assertEqual(sinks(net, read(net, heights)), ())
        told = readings_of(net, heights, 4, 4, 10)
        self.assertEqual(amounts(net, told, 4, 4), (10,))
        self.assertIn((4, 4), sinks(net, told))
        found = FULL.joined(FULL, [(0, 0), (3, 3)])
        for _ in range(7):
            told = read(found, [one + amounts(net, readings_of(net, heights, 4, 4, 10), 4, 4)[0] for one in range(8)])
            self.assertEqual(sinks(found, told), ())


class WrongReadingsTest(unittest.TestCase):

    def test_wrong_readings(self):
        for net, value, at in wrong_sequences(lambda value: type(value) is int):
            for use in (sinks, lambda net, readings: amounts(net, readings, 0, 0)):
                with self.assertRaises(InvalidReadings) as caught:
                    use(net, value)
                self.assertEqual(caught.exception.at, at, value)


if __name__ == "__main__":
    unittest.main()
