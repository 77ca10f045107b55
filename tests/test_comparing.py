"""Promise [18]: nets compared, and the worth of a further tie."""

import itertools
import random
import unittest

from levelties.comparing import alike, best_ties, no_worse, weaker, worth
from levelties.deciding import seen, told
from levelties.nets import Net
from tests.helpers import (BARBELL, DOUBLED, FULL, LARGEST, NAMED, ONE, PAIR, ROW, SQUARE, TRIPLE, is_number_of,
                           joined_over, slow_cut, small_nets, some_nets)

NETS = NAMED + some_nets(60, 61)


def all_lots(net):
    """All lots, also the empty one and that of all posts."""
    return [lot for many in range(net.posts + 1) for lot in itertools.combinations(range(net.posts), many)]


def across(net, lot):
    """How many ties are across a lot."""
    return sum((a in lot) != (b in lot) for a, b in net.ties)


def turned(net, source):
    """The same ties in another order, some of them turned about."""
    ties = source.sample(net.ties, len(net))
    return Net(net.posts, [tie if source.random() < 0.5 else tie[::-1] for tie in ties])


def pairs_of_nets():
    """Pairs of nets with as many posts: unlike ones, and such that differ by few ties."""
    source = random.Random(62)
    found = [pair for pair in itertools.combinations_with_replacement(small_nets(), 2)
             if pair[0].posts == pair[1].posts]
    found += [(p, q) for p, q in itertools.combinations(NETS, 2) if p.posts == q.posts and source.random() < 0.3]
    for net in NETS[1:]:
        other = turned(net, source)
        found.append((net, other))
        for _ in range(3):
            other = other.further([tuple(source.sample(range(net.posts), 2))])
            found.append((net, other))
            moved = net.further([tuple(source.sample(range(net.posts), 2))])
            found.append((moved, other))
    return found


class CompareTest(unittest.TestCase):

    def check(self, p, q):
        """Check all that is told of p and q, lot by lot."""
        more = [across(p, lot) - across(q, lot) for lot in all_lots(p)]
        self.assertIs(no_worse(p, q), min(more) >= 0)
        self.assertIs(alike(p, q), min(more) == 0 == max(more))
        lot = weaker(p, q)
        if min(more) >= 0:
            self.assertIsNone(lot)
        else:
            self.assertEqual((type(lot), lot), (tuple, tuple(sorted(set(lot)))))
            self.assertTrue(all(is_number_of(post, p.posts) for post in lot))
            self.assertLess(across(p, lot), across(q, lot))

    def test_example(self):
        self.assertIs(no_worse(FULL, SQUARE), True)
        self.assertIs(alike(SQUARE, Net(4, [(2, 0), (1, 0), (2, 1), (0, 3), (3, 2)])), True)

    def test_one_post(self):
        self.assertEqual((no_worse(ONE, Net(1)), weaker(ONE, Net(1)), alike(ONE, Net(1))), (True, None, True))

    def test_two_posts(self):
        self.assertEqual((no_worse(TRIPLE, PAIR), weaker(TRIPLE, PAIR), alike(TRIPLE, PAIR)), (True, None, False))
        self.assertEqual((no_worse(PAIR, TRIPLE), alike(PAIR, TRIPLE)), (False, False))
        self.assertIn(weaker(PAIR, TRIPLE), ((0,), (1,)))

    def test_other_order(self):
        source = random.Random(63)
        for net in NETS:
            other = turned(net, source)
            self.assertEqual((no_worse(net, other), weaker(other, net), alike(net, other)), (True, None, True))

    def test_one_tie_more(self):
        source = random.Random(64)
        for net in NETS[1:]:
            a, b = source.sample(range(net.posts), 2)
            more = turned(net, source).further([(a, b)])
            self.assertEqual((no_worse(more, net), weaker(more, net), alike(more, net)), (True, None, False))
            self.assertEqual((no_worse(net, more), alike(net, more)), (False, False))
            lot = weaker(net, more)
            self.assertNotEqual(a in lot, b in lot)

    def test_one_tie_less(self):
        for at in range(len(LARGEST)):
            less = LARGEST.without(at)
            self.assertEqual((no_worse(LARGEST, less), no_worse(less, LARGEST)), (True, False))
            self.assertIn(at, LARGEST.across(weaker(less, LARGEST)))

    def test_tie_moved(self):
        moved = Net(4, [(0, 1), (1, 2), (2, 3), (3, 0), (1, 3)])
        for p, q in ((SQUARE, moved), (moved, SQUARE)):
            self.assertEqual((no_worse(p, q), alike(p, q)), (False, False))
            self.check(p, q)

    def test_lots_of_several_posts_alone(self):
        # Across each post alone there are as many ties, or more: only lots of two posts tell them apart.
        ring = Net(4, [(0, 1), (1, 2), (2, 3), (3, 0)])
        other = Net(4, [(0, 2), (2, 1), (1, 3), (3, 0)])
        self.assertEqual({len(weaker(ring, other)), len(weaker(other, ring))}, {2})
        more = Net(4, [(0, 1), (2, 3), (0, 1), (2, 3), (0, 2)])
        self.assertEqual(weaker(more, ring) in ((0, 1), (2, 3)), True)

    def test_lot_by_lot(self):
        for p, q in pairs_of_nets():
            self.check(p, q)
            self.check(q, p)

    def test_beyond_the_limits(self):
        several = [net for net in some_nets(300, 65, most_posts=9, most_ties=20) if net.posts > 7]
        for p, q in itertools.combinations(several[:24], 2):
            if p.posts == q.posts:
                self.check(p, q)

    def test_only_one_lot(self):
        p = Net(6, [(0, 1), (1, 2), (2, 3), (3, 4), (4, 5), (3, 0), (1, 0), (0, 4), (3, 2), (2, 5)])
        q = Net(6, [(0, 1), (1, 2), (2, 3), (3, 4), (4, 5), (4, 5), (1, 3)])
        self.assertIn(weaker(p, q), ((0, 1, 4), (2, 3, 5)))

    def test_few_ties_moved(self):
        # What is won across a lot by some ties can be lost by others much later.
        source = random.Random(66)
        for _ in range(250):
            posts = source.randint(5, 9)
            row = Net(posts, [(post - 1, post) for post in range(1, posts)])
            several = [[tuple(source.sample(range(posts), 2)) for _ in range(source.randint(2, 8))] for _ in range(2)]
            p, q = [row.further(ties) for ties in several]
            self.check(p, q)
            self.check(q.further(several[0]), p.further(several[0][:2] + several[1]))

    def test_joined_over_and_over(self):
        large = [joined_over(net, [(0, 0), (1, 3)]) for net in (SQUARE, FULL, ROW)]
        self.assertEqual([[no_worse(p, q) for q in large] for p in large],
                         [[True, False, True], [True, True, True], [False, False, True]])
        lot = weaker(large[0], large[1])
        self.assertLess(len(large[0].across(lot)), len(large[1].across(lot)))
        self.assertTrue(alike(large[0], joined_over(SQUARE, [(0, 0), (1, 3)])))
        self.assertFalse(no_worse(joined_over(PAIR, [(0, 1)]), joined_over(PAIR, [(0, 0)])))


class WorthTest(unittest.TestCase):

    def test_example(self):
        self.assertEqual((best_ties(SQUARE), worth(SQUARE, 1, 3)), (((1, 3),), (2, 1)))

    def test_one_post(self):
        self.assertEqual(best_ties(ONE), ())

    def test_some(self):
        self.assertEqual((worth(PAIR, 0, 1), worth(PAIR, 1, 0), worth(TRIPLE, 0, 1)), ((1, 0), (1, 0), (3, 1)))
        self.assertEqual((worth(SQUARE, 0, 2), worth(ROW, 0, 3), worth(ROW, 3, 1)), ((1, 0), (1, 0), (0, 0)))
        self.assertEqual((best_ties(PAIR), best_ties(ROW)), (((0, 1),), ((0, 3),)))
        self.assertEqual(best_ties(BARBELL), tuple(itertools.product((0, 1, 2), (3, 4, 5))))
        self.assertEqual(best_ties(DOUBLED), ((0, 1), (0, 2)))

    def test_no_pair_better_than_another(self):
        star = Net(4, [(0, 1), (0, 2), (0, 3)])
        self.assertEqual(best_ties(star), ((0, 1), (0, 2), (0, 3), (1, 2), (1, 3), (2, 3)))
        self.assertEqual(best_ties(Net(3, [(0, 1), (1, 2), (2, 0)])), ((0, 1), (0, 2), (1, 2)))

    def test_each_pair(self):
        for net in NETS[1:] + small_nets() + some_nets(40, 66, most_posts=8, most_ties=9):
            worths = {}
            for a, b in itertools.combinations(range(net.posts), 2):
                mended = Net(net.posts, [*net.ties, (b, a)])
                least = slow_cut(mended)
                worths[a, b] = (least - 1, (least - 1) // 2)
                self.assertEqual((seen(mended), told(mended)), worths[a, b])
                self.assertEqual(worth(net, a, b), worths[a, b])
                self.assertEqual(worth(net, b, a), worths[a, b])
            best = max(worths.values())
            self.assertEqual(best_ties(net), tuple(pair for pair in sorted(worths) if worths[pair] == best))

    def test_joined_over_and_over(self):
        # Of a long row only a tie between its ends is worth more.
        row = ROW
        for _ in range(7):
            row = row.joined(row, [(row.posts - 1, 0)])
        self.assertEqual(best_ties(row), ((0, 511),))
        self.assertEqual(worth(row, 511, 0), (1, 0))
        net = joined_over(SQUARE, [(0, 0)], 3)
        self.assertEqual(best_ties(net), tuple(itertools.combinations(range(32), 2)))


if __name__ == "__main__":
    unittest.main()
