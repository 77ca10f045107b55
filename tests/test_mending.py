"""Promise [17]: the fewest further ties, and a bound that fewer can't do."""

import itertools
import unittest

from levelties.deciding import seen
from levelties.mending import bound, further
from levelties.nets import Net
from tests.helpers import (BARBELL, DOUBLED, FULL, LARGEST, NAMED, ONE, PAIR, ROW, SQUARE, TRIPLE, all_tuples,
                           is_number_of, joined_over, slow_cut, small_nets, some_nets)

STAR = Net(5, [(0, 1), (2, 0), (0, 3), (4, 0)])
CHAIN = Net(5, [(4, 2), (2, 0), (0, 1), (1, 3)])
RING = Net(5, [(0, 1), (1, 2), (2, 3), (3, 4), (4, 0)])
# Posts 1 and 2 have ties enough each, but not both together.
PATH_WITH_PAIR = Net(4, [(0, 1), (1, 2), (2, 1), (2, 3)])
SMALL = [net for net in NAMED if net.posts < 6] + [STAR, CHAIN, RING, PATH_WITH_PAIR] + small_nets()


def slow_further(net, k):
    """The fewest further ties, one number of ties after another, with all choices of these."""
    pairs = list(itertools.combinations(range(net.posts), 2))
    for many in range(20):
        for ties in itertools.combinations_with_replacement(pairs, many):
            if net.posts == 1 or slow_cut(net.further(ties)) > k:
                return many


class MendingTest(unittest.TestCase):

    def check(self, net, k):
        """Check ties and lots against each other: then both are right. Return how many ties there are."""
        ties, lots = further(net, k), bound(net, k)
        self.assertTrue(all_tuples(ties) and all_tuples(lots))
        self.check_ties(net, k, ties)
        self.check_lots(net, k, lots, len(ties))
        return len(ties)

    def check_ties(self, net, k, ties):
        self.assertIs(type(ties), tuple)
        for a, b in ties:
            self.assertTrue(is_number_of(a, net.posts) and is_number_of(b, net.posts) and a != b)
        if net.posts > 1:
            self.assertGreaterEqual(seen(net.further(ties)), k, str(net))

    def check_lots(self, net, k, lots, many):
        self.assertIs(type(lots), tuple)
        posts = [post for lot in lots for post in lot]
        self.assertTrue(all(is_number_of(post, net.posts) for post in posts))
        self.assertEqual(len(set(posts)), len(posts))
        for lot in lots:
            self.assertEqual(lot, tuple(sorted(lot)))
            self.assertTrue(0 < len(lot) < net.posts)
        missing = sum(k + 1 - sum((a in lot) != (b in lot) for a, b in net.ties) for lot in lots)
        self.assertEqual((missing + 1) // 2, many, (str(net), k, lots))
        if many == 0:
            self.assertEqual(lots, ())

    def test_example(self):
        self.assertEqual((len(further(ROW, 1)), len(further(ROW, 2)), further(FULL, 2)), (1, 3, ()))
        self.assertEqual(seen(ROW.further(further(ROW, 2))), 2)

    def test_one_post(self):
        for k in (1, 2):
            self.assertEqual((further(ONE, k), bound(ONE, k)), ((), ()))

    def test_two_posts(self):
        for many in range(1, 6):
            net = Net(2, [(0, 1), (1, 0), (1, 0), (0, 1), (0, 1)][:many])
            for k in (1, 2):
                self.assertEqual(self.check(net, k), max(0, k + 1 - many))
        self.assertEqual(sorted(bound(PAIR, 2)), [(0,), (1,)])
        self.assertEqual([sorted(tie) for tie in further(PAIR, 2)], [[0, 1], [0, 1]])

    def test_seen_already(self):
        for net, k in ((SQUARE, 1), (FULL, 1), (FULL, 2), (TRIPLE, 2), (DOUBLED, 1), (RING, 1), (LARGEST, 2)):
            self.assertEqual((further(net, k), bound(net, k)), ((), ()))

    def test_one_answer_only(self):
        self.assertEqual(sorted(further(ROW, 1)[0]), [0, 3])
        self.assertEqual(sorted(further(SQUARE, 2)[0]), [1, 3])
        self.assertEqual(sorted(bound(PATH_WITH_PAIR, 2)), [(0,), (1, 2), (3,)])

    def test_some(self):
        for net, first, second in ((ROW, 1, 3), (SQUARE, 0, 1), (STAR, 2, 4), (CHAIN, 1, 4), (RING, 0, 3),
                                   (DOUBLED, 0, 1), (PATH_WITH_PAIR, 1, 3)):
            self.assertEqual((self.check(net, 1), self.check(net, 2)), (first, second), str(net))

    def test_by_all_further_ties(self):
        for net in SMALL + some_nets(60, 51, most_posts=4, most_ties=7) + some_nets(15, 52, most_posts=5, most_ties=8):
            for k in (1, 2):
                self.assertEqual(self.check(net, k), slow_further(net, k), str(net))

    def test_many(self):
        for net in some_nets(400, 53, most_posts=5):
            for k in (1, 2):
                self.check(net, k)

    def test_beyond_the_limits(self):
        for net in NAMED + some_nets(60, 54, most_posts=9, most_ties=14):
            for k in (0, 1, 2, 3, 4):
                self.check(net, k)

    def test_lots_with_common_posts(self):
        # Here the lots that need most ties have common posts, so that others must be taken.
        many = Net(7, [(5, 1), (2, 6), (4, 0), (0, 3), (1, 5), (6, 2), (2, 3), (5, 4), (4, 1), (6, 3), (3, 0)])
        for net, k in ((Net(3, [(0, 1), (2, 1)]), 1), (Net(3, [(0, 1), (1, 2), (1, 2), (0, 1)]), 2), (many, 3)):
            self.check(net, k)

    def test_further_again(self):
        for net in SMALL:
            once = net.further(further(net, 1))
            twice = once.further(further(once, 2))
            self.assertEqual((further(once, 1), further(twice, 2), bound(twice, 2)), ((), (), ()))

    def test_joined_over_and_over(self):
        for net, ties in ((ROW, [(0, 3)]), (SQUARE, [(0, 0)]), (FULL, [(1, 3), (3, 1)]), (BARBELL, [(1, 4)])):
            net = joined_over(net, ties, 5)
            for k in (1, 2):
                self.check(net, k)
        # Of 256 posts in a tree, these are the ends of ways.
        net = joined_over(PAIR, [(0, 0)])
        self.assertEqual((len(further(net, 1)), len(net.ties_at(0))), (64, 8))


if __name__ == "__main__":
    unittest.main()
