"""Promises [7] and [8]: readings, heights and rings."""

import random
import unittest

from levelties.errors import InvalidReadings
from levelties.nets import Net
from levelties.readings import agree, failing, heights, read, rings
from tests.helpers import (BARBELL, DOUBLED, FULL, LARGEST, NAMED, ONE, PAIR, ROW, SQUARE, TRIPLE, all_errors,
                           all_rings, some_nets, solve, wrong_sequences)

GOOD = (2, -1, 5, -6, 1)
BAD = (2, -1, 5, -6, 8)


def some_readings(net, source):
    """Right readings, and some with one or two wrong ones."""
    levels = [source.randint(-999999999, 999999999) for _ in range(net.posts)]
    right = read(net, levels)
    found = [right]
    for many in (1, 2):
        wrong = list(right)
        for _ in range(many):
            wrong[source.randrange(len(net))] += source.choice((-1, 1, 7))
        found.append(tuple(wrong))
    return levels, found


class ReadTest(unittest.TestCase):

    def test_example(self):
        self.assertEqual(read(SQUARE, [3, 5, 4, 9]), GOOD)
        self.assertTrue(agree(SQUARE, GOOD))
        self.assertEqual(heights(SQUARE, GOOD, 3), (3, 5, 4, 9))
        self.assertEqual(rings(SQUARE), ((0, 1, 2, 3), (0, 1, 4), (2, 3, 4)))
        self.assertEqual(failing(SQUARE, BAD), ((0, 1, 4), (2, 3, 4)))

    def test_read(self):
        self.assertEqual(read(PAIR, (2, 5)), (3,))
        self.assertEqual(read(Net(2, [(1, 0)]), (2, 5)), (-3,))
        self.assertEqual(read(ONE, [7]), ())
        self.assertEqual(read(heights=[999999999, -999999999], net=TRIPLE), (-1999999998, 1999999998, -1999999998))

    def test_agree(self):
        self.assertIs(agree(SQUARE, list(GOOD)), True)
        self.assertIs(agree(SQUARE, BAD), False)
        self.assertIs(agree(readings=(), net=ONE), True)
        self.assertIs(agree(ROW, (5, -999999999, 0)), True)
        self.assertIs(agree(TRIPLE, (1, -1, 1)), True)
        self.assertIs(agree(TRIPLE, (1, 1, 1)), False)

    def test_heights(self):
        self.assertEqual(heights(SQUARE, GOOD), (0, 2, 1, 6))
        self.assertEqual(heights(SQUARE, GOOD, first=-1), (-1, 1, 0, 5))
        self.assertEqual(heights(first=4, readings=[], net=ONE), (4,))
        self.assertEqual(heights(ONE, ()), (0,))
        self.assertIsNone(heights(SQUARE, BAD))
        self.assertIsNone(heights(SQUARE, BAD, 3))

    def test_many_nets(self):
        source = random.Random(3)
        for net in some_nets(80, 3):
            levels, several = some_readings(net, source)
            self.assertEqual(heights(net, several[0], levels[0]), tuple(levels))
            for readings in several:
                self.assertEqual(heights(net, readings), solve(net, readings))
                self.assertEqual(agree(net, readings), solve(net, readings) is not None)

    def test_all_small_readings(self):
        for net in (TRIPLE, DOUBLED, Net(3, [(0, 1), (2, 1), (0, 2)]), SQUARE):
            for readings in all_errors(net, len(net)):
                self.assertEqual(heights(net, readings), solve(net, readings))


class RingsTest(unittest.TestCase):

    def test_some(self):
        self.assertEqual((rings(ONE), rings(PAIR), rings(ROW)), ((), (), ()))
        self.assertEqual(rings(TRIPLE), ((0, 1), (0, 2), (1, 2)))
        self.assertEqual(rings(BARBELL), ((0, 1, 2), (3, 4, 5)))
        self.assertEqual(rings(DOUBLED), ((0, 1), (2, 3), (2, 4), (3, 4)))
        self.assertEqual(len(rings(FULL)), 7)

    def test_many_nets(self):
        for net in NAMED + some_nets(40, 4):
            self.assertEqual(rings(net), all_rings(net))

    def test_failing(self):
        self.assertEqual(failing(SQUARE, GOOD), ())
        self.assertEqual(failing(ONE, []), ())
        self.assertEqual(failing(net=TRIPLE, readings=(1, -1, 2)), ((0, 2), (1, 2)))
        self.assertEqual(failing(TRIPLE, [1, 1, 1]), ((0, 1), (1, 2)))
        self.assertEqual(failing(SQUARE, (0, 0, 0, 7, 0)), ((0, 1, 2, 3), (2, 3, 4)))

    def test_failing_ring_by_ring(self):
        source = random.Random(5)
        for net in some_nets(60, 5) + [LARGEST, FULL]:
            _, several = some_readings(net, source)
            for readings in several:
                failed = failing(net, readings)
                self.assertEqual(failed, tuple(ring for ring in rings(net) if not ring_agrees(net, readings, ring)))
                self.assertEqual(failed == (), agree(net, readings))

    def test_nets_of_many_posts(self):
        net = FULL
        for _ in range(6):
            net = net.joined(FULL, [(1, 3), (1, 0), (2, 2)])
        self.assertEqual(agree(net, read(net, range(28))), True)
        chain = ROW
        for _ in range(7):
            chain = chain.joined(chain, [(3, 0)])
        self.assertEqual((chain.posts, rings(chain)), (512, ()))
        twins = BARBELL
        for _ in range(4):
            twins = twins.joined(twins, [(5, 5)])
        self.assertEqual(len(rings(twins)), 32)

    def test_rings_without_many_ways_that_lead_nowhere(self):
        chain = FULL
        for many in range(1, 16):
            chain = chain.joined(FULL, [(4 * many - 1, 0)])
        self.assertEqual(len(rings(chain)), 16 * 7)


def ring_agrees(net, readings, ring):
    """Whether the readings of a ring alone are right for some heights."""
    posts = sorted({post for at in ring for post in net[at]})
    alone = Net(len(posts), [tuple(posts.index(post) for post in net[at]) for at in ring])
    return solve(alone, [readings[at] for at in ring]) is not None


class WrongReadingsTest(unittest.TestCase):

    def test_wrong_readings(self):
        cases = wrong_sequences(lambda value: type(value) is int)
        for net, value, at in cases + [(SQUARE, (2, -1, True, 4, None), 2)]:
            for use in (agree, heights, failing):
                with self.assertRaises(InvalidReadings) as caught:
                    use(net, value)
                self.assertEqual(caught.exception.at, at, value)


if __name__ == "__main__":
    unittest.main()
