"""Promises [5] and [6]: nets."""

import unittest

from levelties.errors import InvalidNet, InvalidText, NoPost, NoTie
from levelties.nets import Net
from tests.helpers import (BARBELL, DOUBLED, FULL, LARGEST, NAMED, ONE, PAIR, ROW, SQUARE, TRIPLE, any_values,
                           is_number_of, places, some_nets)


def are_pairs(value, low, high):
    """Whether any value is a sequence of pairs, the first numbers below low, the second ones below high."""
    if type(value) not in (list, tuple):
        return False
    return all(type(pair) is tuple and len(pair) == 2 and is_number_of(pair[0], low) and is_number_of(pair[1], high)
               for pair in value)


def are_ties(value, posts):
    """Whether any value is a sequence of pairs of unlike posts."""
    return are_pairs(value, posts, posts) and all(a != b for a, b in value)


class NewNetTest(unittest.TestCase):

    def refuse(self, word, *arguments):
        with self.assertRaises(InvalidNet) as caught:
            Net(*arguments)
        self.assertEqual(caught.exception.word, word, arguments)

    def test_attributes(self):
        net = Net(3, [(0, 1), (2, 1), (0, 1)])
        self.assertEqual((net.posts, net.ties), (3, ((0, 1), (2, 1), (0, 1))))
        self.assertIs(type(net.ties), tuple)
        self.assertEqual((ONE.posts, ONE.ties, len(ONE)), (1, (), 0))
        self.assertEqual(Net(1, []).ties, ())
        self.assertEqual(Net(ties=((1, 0),), posts=2).ties, ((1, 0),))

    def test_posts(self):
        for value in any_values():
            if not is_number_of(value, 10 ** 10) or value == 0:
                self.refuse("posts", value)
                self.refuse("posts", value, "no ties")
        self.refuse("posts", 0, ())
        self.refuse("posts", True, ())
        self.refuse("posts", -1, [(0, 1)])

    def test_ties(self):
        for value in any_values():
            for posts in (1, 2, 999999999):
                if not are_ties(value, posts):
                    self.refuse("ties", posts, value)
        for ties in ([(0, 0)], [(0, 2)], [(-1, 0)], [(0, 1), (1, 1)], [[0, 1]], [(0, 1, 1)], [(0,)], ((0, True),),
                     [(0, "1")], [(0, None)], "01", {(0, 1): 1}, [(0, 1), 1], (0, 1)):
            self.refuse("ties", 2, ties)

    def test_joined(self):
        self.refuse("joined", 2)
        self.refuse("joined", 3, [(0, 1), (1, 0), (0, 1)])
        self.refuse("joined", 4, [(0, 1), (2, 3), (3, 2)])
        self.refuse("joined", 4, [(1, 2), (2, 3), (3, 1)])
        self.refuse("joined", 999999999, [(0, 1)])
        self.refuse("joined", 999999999)

    def test_order_of_words(self):
        self.refuse("posts", 0, [(0, 0)])
        self.refuse("ties", 3, [(0, 0)])
        self.refuse("ties", 4, [(0, 1), (2, 2)])

    def test_nets_that_are_joined(self):
        for net in NAMED + some_nets(60, 1):
            self.assertEqual(places(net), [0] * net.posts)


class IndexTest(unittest.TestCase):

    def test_index_and_length(self):
        self.assertEqual([SQUARE[at] for at in range(5)], [(0, 1), (1, 2), (2, 3), (3, 0), (0, 2)])
        self.assertEqual([len(net) for net in (ONE, PAIR, TRIPLE, ROW, SQUARE, LARGEST)], [0, 1, 3, 3, 5, 10])

    def test_no_tie(self):
        for net in (ONE, PAIR, SQUARE):
            for value in any_values() + [5, -5, 4.0, len(net)]:
                if not is_number_of(value, len(net)):
                    with self.assertRaises(NoTie) as caught:
                        net[value]
                    self.assertIs(caught.exception.at, value)
                    with self.assertRaises(NoTie) as caught:
                        net.without(value)
                    self.assertIs(caught.exception.at, value)

    def test_not_iterable(self):
        for net in (ONE, SQUARE):
            for use in (list, tuple, iter, lambda given: (0, 1) in given, lambda given: [*given]):
                with self.assertRaises(TypeError):
                    use(net)


class OtherNetsTest(unittest.TestCase):

    def test_without(self):
        self.assertEqual(SQUARE.without(0).ties, ((1, 2), (2, 3), (3, 0), (0, 2)))
        self.assertEqual(SQUARE.without(2).ties, ((0, 1), (1, 2), (3, 0), (0, 2)))
        self.assertEqual(SQUARE.without(at=4), Net(4, SQUARE.ties[:4]))
        self.assertEqual(TRIPLE.without(1).ties, ((0, 1), (0, 1)))
        self.assertEqual(len(SQUARE), 5)

    def test_without_what_joins(self):
        for net, at in ((PAIR, 0), (ROW, 1), (BARBELL, 6), (SQUARE.without(3), 2)):
            with self.assertRaises(InvalidNet) as caught:
                net.without(at)
            self.assertEqual(caught.exception.word, "joined")
        with self.assertRaises(NoTie):
            PAIR.without(1)

    def test_further(self):
        self.assertEqual(SQUARE.further([(1, 3)]).ties, SQUARE.ties + ((1, 3),))
        self.assertEqual(PAIR.further(ties=((1, 0), (0, 1))), Net(2, [(0, 1), (1, 0), (0, 1)]))
        self.assertEqual(SQUARE.further([]), SQUARE)
        self.assertEqual(ONE.further(()), ONE)

    def test_further_refuses(self):
        for net in (ONE, PAIR, SQUARE):
            for value in any_values() + [[(0, 4)], [(0, 1), (1, 1)], [(0, 1), [1, 0]]]:
                if not are_ties(value, net.posts):
                    with self.assertRaises(InvalidNet) as caught:
                        net.further(value)
                    self.assertEqual(caught.exception.word, "ties", value)

    def test_across(self):
        self.assertEqual(SQUARE.across((0,)), (0, 3, 4))
        self.assertEqual(SQUARE.across([3, 0]), (0, 2, 4))
        self.assertEqual(SQUARE.across(lot=(1, 2, 3)), (0, 3, 4))
        self.assertEqual((SQUARE.across(()), SQUARE.across([3, 1, 2, 0]), ONE.across([0])), ((), (), ()))
        self.assertEqual(TRIPLE.across([1]), (0, 1, 2))

    def test_ties_at(self):
        self.assertEqual([SQUARE.ties_at(post) for post in range(4)], [(0, 3, 4), (0, 1), (1, 2, 4), (2, 3)])
        self.assertEqual(DOUBLED.ties_at(post=1), (0, 1, 2, 3, 4))
        self.assertEqual(ONE.ties_at(0), ())

    def test_no_post(self):
        for net in (ONE, PAIR, SQUARE):
            for value in any_values() + [4, net.posts]:
                if not is_number_of(value, net.posts):
                    with self.assertRaises(NoPost) as caught:
                        net.ties_at(value)
                    self.assertIs(caught.exception.at, value)


class JoinedTest(unittest.TestCase):

    def test_joined(self):
        net = PAIR.joined(DOUBLED, [(1, 0), (0, 2)])
        self.assertEqual(net.posts, 5)
        self.assertEqual(net.ties, ((0, 1), (2, 3), (3, 2), (4, 3), (3, 4), (3, 4), (1, 2), (0, 4)))
        self.assertEqual(ONE.joined(ties=((0, 0), (0, 0)), q=ONE), Net(2, [(0, 1), (0, 1)]))
        self.assertEqual(PAIR.joined(PAIR, [(1, 1)]).ties, ((0, 1), (2, 3), (1, 3)))
        self.assertEqual((PAIR, len(DOUBLED)), (Net(2, [(0, 1)]), 5))

    def test_refuses_ties(self):
        more = [[(0, 3)], [(2, 0)], [(0, 0), (-1, 0)], [[0, 0]], [(0, 0), 0], "00", ((0, 0, 0),), [(True, 0)]]
        for value in any_values() + more:
            if not are_pairs(value, 2, 3):
                with self.assertRaises(InvalidNet) as caught:
                    PAIR.joined(DOUBLED, value)
                self.assertEqual(caught.exception.word, "ties", value)

    def test_each_number_counts_in_its_own_net(self):
        self.assertEqual(PAIR.joined(DOUBLED, [(1, 2)])[6], (1, 4))
        self.assertEqual(DOUBLED.joined(PAIR, [(2, 1)])[6], (2, 4))
        for pair in ((1, 2), (0, 2)):
            with self.assertRaises(InvalidNet):
                DOUBLED.joined(PAIR, [pair])

    def test_refuses_no_ties(self):
        for value in ((), []):
            with self.assertRaises(InvalidNet) as caught:
                SQUARE.joined(FULL, value)
            self.assertEqual(caught.exception.word, "joined")


class TextTest(unittest.TestCase):

    def test_text(self):
        self.assertEqual(str(ONE), "posts 1")
        self.assertEqual(str(SQUARE), "posts 4\ntie 0 1\ntie 1 2\ntie 2 3\ntie 3 0\ntie 0 2")

    def test_read_back(self):
        for net in NAMED + some_nets(40, 2):
            self.assertEqual(Net.read(str(net)), net)
            self.assertIs(type(Net.read(text=str(net))), Net)
        self.assertEqual(Net.read("posts 2\ntie 1 0").ties, ((1, 0),))
        many = "posts 12" + "".join(f"\ntie {post} {post + 1}" for post in range(11))
        self.assertEqual(Net.read(many)[10], (10, 11))

    def test_lines_that_are_not_of_the_form(self):
        for at, text in ((0, ""), (0, "\n"), (0, "posts"), (0, "posts "), (0, "posts 01"), (0, "posts 100"),
                         (0, "posts  2"), (0, " posts 2"), (0, "posts 2 "), (0, "Posts 2"), (0, "posts -1"),
                         (0, "posts +1"), (0, "posts 1 1"), (0, "posts x"), (0, "tie 0 1"), (0, "posts 00"),
                         (0, "posts 1_0"), (0, "\nposts 1"), (1, "posts 1\n"), (1, "posts 1\nposts 1"),
                         (1, "posts 2\ntie 0"), (1, "posts 2\ntie 0 1 0"), (1, "posts 2\ntie 00 1"),
                         (1, "posts 2\ntie 0 01"), (1, "posts 2\ntie 0 100"), (1, "posts 2\ntie 0,1"),
                         (1, "posts 2\ntie  0 1"), (1, "posts 2\ntie 0  1"), (1, "posts 2\n tie 0 1"),
                         (1, "posts 2\ntie 0 -1"), (1, "posts 2\ntie 0 1 "), (1, "posts 2\n\ntie 0 1"),
                         (2, "posts 2\ntie 0 1\n"), (2, "posts 2\ntie 0 1\nknot 0 1\ntie"), (1, "posts 0\ntie 0 x"),
                         (3, "posts 9\ntie 0 0\ntie 0 1\ntie 0 a\n"), (0, "x" * 1000), (1, "posts 1" + "\n" * 993),
                         (0, "posts 1\rtie 0 1"), (0, "posts \u00b2"), (0, "posts \u0663"), (1, "posts 2\ntie 0 \u0661")):
            with self.assertRaises(InvalidText) as caught:
                Net.read(text)
            self.assertEqual(caught.exception.at, at, text)

    def test_then_invalid_nets(self):
        for word, text in (("posts", "posts 0"), ("posts", "posts 0\ntie 0 0"), ("ties", "posts 2\ntie 0 2"),
                           ("ties", "posts 2\ntie 1 1"), ("joined", "posts 2"), ("joined", "posts 99\ntie 0 98"),
                           ("ties", "posts 4\ntie 99 0"), ("joined", "posts 4\ntie 0 1\ntie 2 3\ntie 3 2")):
            with self.assertRaises(InvalidNet) as caught:
                Net.read(text)
            self.assertEqual(caught.exception.word, word, text)

    def test_equal(self):
        self.assertEqual(Net(2, [(0, 1)]), PAIR)
        self.assertTrue(Net(2, ((0, 1),)) == PAIR)
        self.assertFalse(Net(2, [(0, 1)]) != PAIR)
        nets = NAMED + [Net(2, [(1, 0)]), Net(3, [(0, 1), (1, 2)]), Net(3, [(1, 2), (0, 1)])]
        for p in nets:
            for q in nets:
                self.assertEqual(p == q, str(p) == str(q))

    def test_equal_to_nothing_of_another_class(self):
        class Everything:
            def __eq__(self, other):
                return True

        for value in [str(PAIR), (2, ((0, 1),)), PAIR.ties, None, 2, Everything(), NoTie(0)]:
            self.assertFalse(PAIR == value)
            self.assertTrue(PAIR != value)


if __name__ == "__main__":
    unittest.main()
