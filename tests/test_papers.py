"""Promises [11] and [12]: ways, cuts between posts, and papers."""

import itertools
import unittest

from levelties.deciding import seen
from levelties.nets import Net
from levelties.papers import cut_between, paper, paper_holds, ways
from tests.helpers import (BARBELL, DOUBLED, FULL, LARGEST, NAMED, ONE, PAIR, ROW, SQUARE, TRIPLE, any_values,
                           is_number_of, some_nets)

NETS = NAMED[1:] + some_nets(60, 11)


def least_between(net, a, b):
    """The least number of ties across a lot with a and without b, lot by lot."""
    others = [post for post in range(net.posts) if post not in (a, b)]
    return min(len(net.across((a, *more)))
               for many in range(net.posts - 1) for more in itertools.combinations(others, many))


def leads(net, way, a, b):
    """Whether a tuple of unlike ties leads from one post to another one, one tie behind another."""
    if type(way) is not tuple or not all(is_number_of(at, len(net)) for at in way) or len(set(way)) != len(way):
        return False
    for at in way:
        if a not in net.ties[at]:
            return False
        a = [end for end in net.ties[at] if end != a][0]
    return a == b


def are_ways(net, several, a, b):
    """Whether this is a tuple of ways, no two with a common tie."""
    ties = [at for way in several for at in way]
    return type(several) is tuple and all(leads(net, way, a, b) for way in several) and len(set(ties)) == len(ties)


class WaysTest(unittest.TestCase):

    def test_example(self):
        self.assertEqual((len(ways(SQUARE, 0, 2)), len(ways(SQUARE, 1, 3))), (3, 2))
        self.assertEqual(len(SQUARE.across(cut_between(SQUARE, 1, 3))), 2)

    def test_one_answer_only(self):
        self.assertEqual(ways(PAIR, 0, 1), ((0,),))
        self.assertEqual(ways(PAIR, 1, 0), ((0,),))
        self.assertEqual(ways(ROW, 0, 3), ((0, 1, 2),))
        self.assertEqual(ways(ROW, 3, 1), ((2, 1),))
        self.assertEqual(sorted(ways(TRIPLE, 1, 0)), [(0,), (1,), (2,)])
        self.assertEqual(cut_between(PAIR, 0, 1), (0,))
        self.assertEqual(cut_between(TRIPLE, 1, 0), (1,))
        self.assertEqual(cut_between(BARBELL, 4, 2), (3, 4, 5))
        self.assertEqual(cut_between(DOUBLED, 0, 2), (0,))
        self.assertEqual(cut_between(DOUBLED, 2, 0), (1, 2))

    def test_as_many_as_possible(self):
        for net in NETS:
            for a, b in itertools.permutations(range(net.posts), 2):
                several = ways(net, a, b)
                self.assertTrue(are_ways(net, several, a, b), (str(net), several))
                self.assertEqual(len(several), least_between(net, a, b))

    def test_cut_between(self):
        for net in NETS:
            for a, b in itertools.permutations(range(net.posts), 2):
                lot = cut_between(net, a, b)
                self.assertEqual((type(lot), lot), (tuple, tuple(sorted(set(lot)))))
                self.assertTrue(all(is_number_of(post, net.posts) for post in lot))
                self.assertTrue(a in lot and b not in lot)
                self.assertEqual(len(net.across(lot)), least_between(net, a, b))

    def test_many_ways_that_cross(self):
        # The first way that comes to mind, by the tie in the middle, would stand in the way of two.
        net = Net(6, [(0, 1), (1, 2), (2, 5), (0, 3), (3, 4), (4, 5), (1, 4)])
        for a, b in ((0, 5), (5, 0)):
            self.assertEqual(sorted(map(sorted, ways(net, a, b))), [[0, 1, 2], [3, 4, 5]])

    def test_large(self):
        net = LARGEST
        for _ in range(7):
            net = net.joined(net, [(0, 0), (1, 1), (5, 5)])
        last = net.posts - 1
        self.assertEqual(last, 767)
        several = ways(net, 0, last)
        self.assertTrue(are_ways(net, several, 0, last))
        self.assertEqual(len(several), len(net.across(cut_between(net, 0, last))))


def is_right(net, k, value):
    """Whether a tuple of tuples of tuples is a right paper, as the document says it."""
    return len(value) == net.posts - 1 and all(
        len(several) >= k + 1 and are_ways(net, several, 0, post) for post, several in enumerate(value, start=1))


class PaperTest(unittest.TestCase):

    def test_example(self):
        self.assertIs(paper_holds(SQUARE, 1, paper(SQUARE, 1)), True)
        self.assertIsNone(paper(SQUARE, 2))
        self.assertIs(paper_holds(SQUARE, 0, (((0,),), ((4,),), ((3,),))), True)

    def test_all_k(self):
        for net in NETS:
            for k in (*range(12), 99):
                value = paper(net, k)
                self.assertEqual(value is None, seen(net) < k)
                if value is not None:
                    self.assertIs(type(value), tuple)
                    self.assertTrue(is_right(net, k, value), (str(net), value))
                    for other in range(12):
                        self.assertEqual(paper_holds(net, other, value), is_right(net, other, value))

    def test_one_post(self):
        for k in (0, 1, 10, 11):
            self.assertEqual(paper(ONE, k), ())
            self.assertIs(paper_holds(ONE, k, ()), True)
            for value in any_values():
                self.assertIs(paper_holds(ONE, k, value), type(value) is tuple and value == ())

    def test_papers_of_the_joined(self):
        net = LARGEST.joined(FULL, [(0, 0), (1, 1), (2, 2)])
        value = paper(net, 2)
        self.assertTrue(is_right(net, 2, value))
        self.assertIs(paper_holds(net, 2, value), True)
        self.assertIs(paper_holds(LARGEST, 2, value), False)
        self.assertIsNone(paper(net, 3))


class HoldsTest(unittest.TestCase):

    def holds(self, wanted, net, k, value):
        self.assertIs(paper_holds(net, k, value), wanted, value)

    def test_more_ways_than_needed(self):
        self.holds(True, TRIPLE, 0, (((0,), (2,), (1,)),))
        self.holds(True, TRIPLE, 2, (((0,), (2,), (1,)),))
        self.holds(False, TRIPLE, 3, (((0,), (2,), (1,)),))
        self.holds(False, TRIPLE, 2, (((0,), (2,)),))
        self.holds(True, PAIR, 0, (((0,),),))
        self.holds(False, PAIR, 1, (((0,),),))

    def test_ways_by_a_post_twice(self):
        # Only ties may not come twice.
        self.holds(True, TRIPLE, 0, (((1, 2, 0),),))
        self.holds(True, SQUARE, 0, (((0,),), ((0, 1, 4, 3, 2),), ((3,),)))

    def test_common_ties(self):
        self.holds(False, TRIPLE, 1, (((0,), (0,)),))
        self.holds(False, TRIPLE, 0, (((0, 0, 1),),))
        self.holds(False, TRIPLE, 1, (((0,), (1, 2, 0)),))
        self.holds(True, ROW, 0, (((0,),), ((0, 1),), ((0, 1, 2),)))

    def test_wrong_ways(self):
        right = [((0,), (4, 1)), ((4,), (0, 1)), ((3,), (4, 2))]
        self.holds(True, SQUARE, 1, tuple(right))
        for way in ((), (1,), (0, 1), (1, 4), (5,), (-5,), (4, 1, 0), (True,), (False,), (0.0,), ("0",), (None,),
                    ((0,),), [0], 0, "0", None, (0, 0, 0), (SQUARE,)):
            self.holds(False, SQUARE, 1, ((way, (4, 1)), *right[1:]))
            self.holds(False, SQUARE, 0, ((way,), *right[1:]))
            # As one more than needed it must be right, too.
            self.holds(False, SQUARE, 0, (((4, 1), way, (0,)), *right[1:]))

    def test_wrong_forms(self):
        right = (((0,), (4, 1)), ((4,), (0, 1)), ((3,), (4, 2)))
        self.holds(False, SQUARE, 1, list(right))
        self.holds(False, SQUARE, 1, (list(right[0]), *right[1:]))
        self.holds(False, SQUARE, 1, (([0], (4, 1)), *right[1:]))
        self.holds(False, SQUARE, 1, right[1:])
        self.holds(False, SQUARE, 1, right[:2])
        self.holds(False, SQUARE, 1, (*right, ((3,), (4, 2))))
        self.holds(False, SQUARE, 1, (*right, ()))
        self.holds(False, SQUARE, 1, ((), *right))
        self.holds(False, SQUARE, 1, right[::-1])
        self.holds(False, SQUARE, 1, (right,))
        self.holds(False, SQUARE, 0, ((), (), ()))
        self.holds(False, SQUARE, 10, right)

    def test_any_values(self):
        right = (((0,), (4, 1)), ((4,), (0, 1)), ((3,), (4, 2)))
        for value in any_values():
            self.holds(False, SQUARE, 1, value)
            self.holds(False, PAIR, 0, value)
            for at in range(3):
                self.holds(False, SQUARE, 1, (*right[:at], value, *right[at + 1:]))
                self.holds(False, SQUARE, 1, (*right[:at], (value, value), *right[at + 1:]))
                self.holds(False, SQUARE, 1, (*right[:at], ((value,), (value,)), *right[at + 1:]))

    def test_many_ways(self):
        self.holds(False, TRIPLE, 0, (((0,),) * 40,))
        net = Net(2, [(0, 1)] * 10)
        self.holds(True, net, 9, (tuple((at,) for at in range(10)),))
        self.holds(False, net, 10, (tuple((at,) for at in range(10)),))
        net = Net(2, [(0, 1)] * 40)
        self.holds(True, net, 10, (tuple((at,) for at in range(40)),))


if __name__ == "__main__":
    unittest.main()
