"""Promises [9] and [10]: what can be seen and told."""

import itertools
import unittest

from levelties.deciding import alike_errors, classes, hidden, least_cut, least_cuts, needed, seen, told
from levelties.errors import InvalidNet
from levelties.nets import Net
from levelties.readings import agree, read
from tests.helpers import (BARBELL, DOUBLED, FULL, LARGEST, NAMED, ONE, PAIR, ROW, SQUARE, TRIPLE, all_errors,
                           count_wrong, lots_with_first, parting, places, small_nets, some_nets)

NETS = NAMED[1:] + some_nets(60, 6)


class ExampleTest(unittest.TestCase):

    def test_square(self):
        self.assertEqual((seen(SQUARE), told(SQUARE), hidden(SQUARE, 1)), (1, 0, None))
        self.assertEqual(sum([error != 0 for error in hidden(SQUARE, 2)]), 2)

    def test_full(self):
        self.assertEqual((seen(FULL), told(FULL), alike_errors(FULL, 1)), (2, 1, None))

    def test_classes(self):
        self.assertEqual(classes(SQUARE, 1), ((0, 2), (1,), (3,)))
        self.assertEqual(classes(FULL, 1), ((0, 1, 2, 3),))


class CutTest(unittest.TestCase):

    def test_some(self):
        self.assertEqual([least_cut(net) for net in (PAIR, TRIPLE, ROW, SQUARE, FULL, BARBELL)], [1, 3, 1, 2, 3, 1])
        self.assertEqual(least_cuts(TRIPLE), ((0,),))
        self.assertEqual(least_cuts(ROW), ((0,), (0, 1), (0, 1, 2)))
        self.assertEqual(least_cuts(SQUARE), ((0, 1, 2), (0, 2, 3)))
        self.assertEqual(least_cuts(BARBELL), ((0, 1, 2),))

    def test_one_post(self):
        self.assertIsNone(least_cut(ONE))
        self.assertEqual(least_cuts(ONE), ())

    def test_all_lots(self):
        for net in NETS:
            across = {lot: len(net.across(lot)) for lot in lots_with_first(net)}
            least = min(across.values())
            self.assertEqual(least_cut(net), least)
            self.assertEqual(least_cuts(net), tuple(sorted(lot for lot in across if across[lot] == least)))

    def test_many_cuts(self):
        ring = Net(6, [(0, 1), (2, 1), (2, 3), (3, 4), (5, 4), (5, 0)])
        self.assertEqual(len(least_cuts(ring)), 15)


class SeenTest(unittest.TestCase):

    def test_one_post(self):
        self.assertIsNone(seen(ONE))
        self.assertIsNone(told(ONE))

    def test_two_posts(self):
        for many in range(1, 11):
            net = Net(2, [(at % 2, 1 - at % 2) for at in range(many)])
            self.assertEqual((seen(net), told(net)), (many - 1, (many - 1) // 2))

    def test_by_the_ties_that_join(self):
        for net in NETS:
            parted = [k for k in range(len(net) + 1) if any(parting(net, k, 0, post) for post in range(net.posts))]
            self.assertEqual(seen(net), parted[0] - 1)
            self.assertEqual(told(net), max(k for k in range(11) if 2 * k < parted[0]))

    def test_by_all_errors(self):
        for net in small_nets():
            self.assertEqual(seen(net), max(k for k in range(5) if not some_hidden(net, k)))
            self.assertEqual(told(net), max(k for k in range(5) if not some_alike(net, k)))


def some_hidden(net, k):
    """Whether some errors with at most k are hidden, tried one by one."""
    return any(agree(net, errors) for errors in all_errors(net, k) if count_wrong(errors) > 0)


def some_alike(net, k):
    """Whether some unlike errors look alike, tried one by one."""
    pairs = itertools.combinations(all_errors(net, k), 2)
    return any(agree(net, [x - y for x, y in zip(*pair)]) for pair in pairs)


class HiddenTest(unittest.TestCase):

    def test_hidden(self):
        for net in NETS:
            for k in (*range(12), 99):
                errors = hidden(net, k)
                self.assertEqual(errors is None, k <= seen(net))
                if errors is not None:
                    self.check_errors(net, errors, k)
                    self.assertTrue(agree(net, errors))
                    self.assertGreater(count_wrong(errors), 0)

    def check_errors(self, net, errors, k):
        self.assertIs(type(errors), tuple)
        self.assertEqual([type(error) for error in errors], [int] * len(net))
        self.assertLessEqual(count_wrong(errors), k)

    def test_hidden_in_any_readings(self):
        for levels in ((3, 5, 4, 9), (0, 0, 0, 0), (-999999999, 999999999, 0, 1)):
            right = read(SQUARE, levels)
            wrong = [reading + error for reading, error in zip(right, hidden(SQUARE, 2))]
            self.assertNotEqual(tuple(wrong), right)
            self.assertTrue(agree(SQUARE, wrong))

    def test_alike_errors(self):
        for net in NETS:
            for k in (*range(12), 99):
                pair = alike_errors(net, k)
                self.assertEqual(pair is None, k <= told(net))
                if pair is not None:
                    self.assertIs(type(pair), tuple)
                    first, second = pair
                    self.check_errors(net, first, k)
                    self.check_errors(net, second, k)
                    self.assertNotEqual(first, second)
                    self.assertTrue(agree(net, [x - y for x, y in zip(first, second)]))

    def test_none(self):
        for k in (0, 1, 10, 11):
            self.assertIsNone(hidden(ONE, k))
            self.assertIsNone(alike_errors(ONE, k))
        for net in NETS:
            self.assertIsNone(hidden(net, 0))
            self.assertIsNone(alike_errors(net, 0))


class NeededTest(unittest.TestCase):

    def test_some(self):
        self.assertEqual([needed(net) for net in (ONE, PAIR, TRIPLE)], [(), (0,), (0, 1, 2)])
        self.assertEqual(needed(SQUARE), (0, 1, 2, 3))
        self.assertEqual(needed(BARBELL), (6,))
        self.assertEqual(needed(DOUBLED), (0, 1))

    def test_without_each(self):
        for net in NETS:
            self.assertEqual(needed(net), tuple(at for at in range(len(net)) if is_needed(net, at)))


def is_needed(net, at):
    """Whether the net is not joined without the tie, or less is seen."""
    try:
        return seen(net.without(at)) < seen(net)
    except InvalidNet:
        return True


class ClassesTest(unittest.TestCase):

    def test_some(self):
        self.assertEqual(classes(ONE, 0), ((0,),))
        self.assertEqual(classes(ONE, 10), ((0,),))
        self.assertEqual(classes(DOUBLED, 1), ((0,), (1, 2)))
        self.assertEqual(classes(TRIPLE, 1), ((0, 1),))
        self.assertEqual(classes(TRIPLE, 2), ((0,), (1,)))

    def test_none_wrong(self):
        for net in NETS:
            self.assertEqual(classes(net, 0), (tuple(range(net.posts)),))
            self.assertEqual(classes(net, 10), tuple((post,) for post in range(net.posts)))

    def test_by_the_ties_that_join(self):
        for net in NETS:
            for k in range(1, 5):
                together = {frozenset(lot) for lot in classes(net, k)}
                wanted = {frozenset(b for b in range(net.posts) if a == b or not parting(net, 2 * k, a, b))
                          for a in range(net.posts)}
                self.assertEqual(together, wanted)
                self.assertEqual(classes(net, k), tuple(sorted(tuple(sorted(lot)) for lot in wanted)))

    def test_by_all_explanations(self):
        for net in small_nets():
            for k in range(3):
                apart = unsure_pairs(net, k)
                place = {post: lot for lot in classes(net, k) for post in lot}
                for a, b in itertools.combinations(range(net.posts), 2):
                    self.assertEqual(place[a] != place[b], (a, b) in apart, (str(net), k))


def unsure_pairs(net, k):
    """The pairs of posts whose difference is not the same in two explanations of some readings, one by one."""
    levels = [(0, *more) for more in itertools.product((0, 1), repeat=net.posts - 1)]
    found = set()
    for readings in all_errors(net, len(net)):
        fits = [level for level in levels
                if count_wrong([x - y for x, y in zip(readings, read(net, level))]) <= k]
        for p, q in itertools.combinations(fits, 2):
            found.update((a, b) for a, b in itertools.combinations(range(net.posts), 2) if p[b] - p[a] != q[b] - q[a])
    return found


class LargeTest(unittest.TestCase):
    """What the package returned may be passed on, whatever its size."""

    def test_joined_over_and_over(self):
        net = LARGEST
        for _ in range(7):
            net = net.joined(net, [(0, 0), (1, 1)])
        self.assertEqual(net.posts, 6 * 2 ** 7)
        self.assertEqual(least_cut(net), 2)
        self.assertEqual((seen(net), told(net)), (1, 0))
        self.assertEqual(len(hidden(net, 2)), len(net))
        self.assertTrue(agree(net, hidden(net, 2)))

    def test_two_squares(self):
        net = SQUARE.joined(FULL, [(0, 0), (2, 1), (0, 3)])
        self.assertEqual(least_cuts(net), ((0, 1, 2, 4, 5, 6, 7), (0, 2, 3, 4, 5, 6, 7)))
        self.assertEqual(needed(net), (0, 1, 2, 3))
        self.assertEqual(classes(net, 1), ((0, 2, 4, 5, 6, 7), (1,), (3,)))

    def test_many_ties(self):
        net = LARGEST
        for _ in range(7):
            net = net.further(LARGEST.ties)
        self.assertEqual(least_cut(net), 8 * least_cut(LARGEST))
        self.assertEqual(least_cuts(net), least_cuts(LARGEST))
        self.assertEqual(len(needed(net)), 8 * len(needed(LARGEST)))

    def test_sixteen_posts(self):
        net = ROW.joined(ROW, [(0, 0), (3, 3)])
        net = net.joined(net, [(1, 2), (5, 6)])
        self.assertEqual(net.posts, 16)
        across = {lot: len(net.across(lot)) for lot in lots_with_first(net)}
        least = min(across.values())
        self.assertEqual(least_cuts(net), tuple(sorted(lot for lot in across if across[lot] == least)))
        self.assertEqual(places(net, needed(net)).count(0) < 16, True)


if __name__ == "__main__":
    unittest.main()
