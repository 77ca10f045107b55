"""Promise [15]: readings that fail together."""

import itertools
import random
import unittest

from levelties.deciding import seen, told
from levelties.errors import InvalidGroups
from levelties.groups import seen_groups, told_groups, weak_lot
from levelties.nets import Net
from levelties.readings import agree
from tests.helpers import (BARBELL, FULL, LARGEST, NAMED, ONE, ROW, SQUARE, all_errors, lots_with_first, small_nets,
                           some_nets, wrong_sequences)

NETS = NAMED[1:] + some_nets(80, 41)


def some_groups(net, source):
    """Groups of the ties: all one, all unlike, and several kinds between these."""
    found = [[7] * len(net), list(range(len(net))), [999999999 - at for at in range(len(net))]]
    for many in (2, 3, 4, 5, 8):
        found.append([source.randrange(many) for _ in net.ties])
    found.append([0 if source.random() < 0.6 else at for at in range(1, len(net) + 1)])
    return found


def across(net, groups, lot):
    """The groups with ties across a lot."""
    return {group for (a, b), group in zip(net.ties, groups) if (a in lot) != (b in lot)}


class ExampleTest(unittest.TestCase):

    def test_full(self):
        pairs = (0, 0, 1, 1, 2, 2)
        self.assertEqual((seen_groups(FULL, pairs), told_groups(FULL, pairs)), (1, 0))
        self.assertEqual(seen_groups(FULL, (0, 1, 2, 3, 4, 5)), 2)
        self.assertEqual(len(across(FULL, pairs, weak_lot(FULL, pairs))), 2)


class GroupsTest(unittest.TestCase):

    def test_one_post(self):
        for groups in ((), []):
            self.assertIsNone(seen_groups(ONE, groups))
            self.assertIsNone(told_groups(ONE, groups))
            self.assertIsNone(weak_lot(ONE, groups))

    def test_two_posts(self):
        for many in range(1, 11):
            net = Net(2, [(0, 1)] * many)
            for kinds in range(1, many + 1):
                groups = [at % kinds for at in range(many)]
                self.assertEqual((seen_groups(net, groups), told_groups(net, groups)), (kinds - 1, (kinds - 1) // 2))
                self.assertEqual(weak_lot(net, groups), (0,))

    def test_all_one(self):
        for net in NETS:
            self.assertEqual((seen_groups(net, [3] * len(net)), told_groups(net, [3] * len(net))), (0, 0))

    def test_all_unlike(self):
        for net in NETS:
            groups = tuple(at * at for at in range(len(net)))
            self.assertEqual((seen_groups(net, groups), told_groups(net, groups)), (seen(net), told(net)))

    def test_fewer_groups_across_more_ties(self):
        # One tie joins the halves, but all four ties at post 4 are read with one staff, as are two more.
        net = Net(5, [(0, 1), (1, 2), (2, 0), (0, 4), (1, 4), (2, 4), (3, 4), (3, 0), (3, 1)])
        groups = [1, 2, 3, 0, 0, 0, 0, 4, 5]
        self.assertEqual((seen_groups(net, groups), told_groups(net, groups)), (0, 0))
        self.assertEqual(weak_lot(net, groups), (0, 1, 2, 3))

    def test_by_all_lots(self):
        source = random.Random(42)
        for net in NETS:
            for groups in some_groups(net, source):
                few = min(len(across(net, groups, lot)) for lot in lots_with_first(net))
                self.assertEqual(seen_groups(net, groups), few - 1)
                self.assertEqual(told_groups(net, groups), max(k for k in range(11) if 2 * k < few))
                lot = weak_lot(net, groups)
                self.assertIn(lot, lots_with_first(net))
                self.assertEqual(len(across(net, groups, lot)), few)

    def test_by_all_errors(self):
        source = random.Random(43)
        for net in small_nets():
            for groups in some_groups(net, source):
                kinds = {errors: len({group for error, group in zip(errors, groups) if error})
                         for errors in all_errors(net, len(net))}
                hidden = min(kinds[errors] for errors in kinds if kinds[errors] and agree(net, errors))
                self.assertEqual(seen_groups(net, groups), hidden - 1)
                alike = [max(kinds[one], kinds[other]) for one, other in itertools.combinations(kinds, 2)
                         if agree(net, [x - y for x, y in zip(one, other)])]
                self.assertEqual(told_groups(net, groups), min(alike) - 1)

    def test_lists_and_tuples(self):
        for groups in ((0, 1, 0, 1, 2), (5, 5, 4, 4, 4)):
            for function in (seen_groups, told_groups, weak_lot):
                self.assertEqual(function(SQUARE, list(groups)), function(groups=groups, net=SQUARE))


class LargeTest(unittest.TestCase):

    def test_joined_over_and_over(self):
        net = LARGEST
        for _ in range(7):
            net = net.joined(net, [(0, 0), (1, 1)])
        self.assertEqual(seen_groups(net, list(range(len(net)))), 1)
        self.assertEqual(seen_groups(net, [at // 2 for at in range(len(net))]), 0)
        self.assertEqual(told_groups(net, [at % 3 for at in range(len(net))]), 0)

    def test_twelve_posts(self):
        source = random.Random(44)
        net = LARGEST.joined(LARGEST, [(0, 0), (1, 1), (2, 2), (5, 3)])
        for many in (3, 8, 12, 16):
            groups = [source.randrange(many) for _ in net.ties]
            few = min(len(across(net, groups, lot)) for lot in lots_with_first(net))
            self.assertEqual(seen_groups(net, groups), few - 1)
            self.assertEqual(len(across(net, groups, weak_lot(net, groups))), few)


class WrongGroupsTest(unittest.TestCase):

    def test_wrong_groups(self):
        cases = wrong_sequences(lambda value: type(value) is int and value >= 0)
        cases += [(ROW, (0, -1), 0), (BARBELL, (0, 1, 2, 3, 4, 5, 6, None), 0), (SQUARE, (2, 0, 1, -1, None), 3)]
        for net, value, at in cases:
            for use in (seen_groups, told_groups, weak_lot):
                with self.assertRaises(InvalidGroups) as caught:
                    use(net, value)
                self.assertEqual(caught.exception.at, at, value)


if __name__ == "__main__":
    unittest.main()
