"""Promises [13] and [14]: what told readings leave open."""

import itertools
import random
import unittest

from levelties.deciding import alike_errors, hidden, told
from levelties.errors import InvalidReadings
from levelties.explaining import differences, fewest_wrong, is_set, sets, span, surely
from levelties.nets import Net
from levelties.readings import agree, failing, heights, read
from tests.helpers import (BARBELL, DOUBLED, FULL, LARGEST, NAMED, ONE, PAIR, ROW, SQUARE, TRIPLE, all_errors,
                           all_sets, any_values, clumps, count_wrong, is_number_of, small_nets, some_nets,
                           wrong_readings, wrong_sequences)

GOOD = (2, -1, 5, -6, 1)
BAD = (2, -1, 5, -6, 8)


def some_cases(many, seed):
    """Pairs of a net and readings, from right ones to ones of which nearly all are wrong."""
    source = random.Random(seed)
    nets = [net for net in NAMED if net.posts > 1] + some_nets(many, seed)
    return [(net, wrong_readings(net, source, source.choice((0, 1, 1, 2, 3, 9)))) for net in nets]


def slow_sets(net, readings):
    """All least sets, set by set."""
    found = []
    for ties in all_sets(net):
        if clumps(net, readings, ties) is not None and not any(set(least) <= set(ties) for least in found):
            found.append(ties)
    return tuple(sorted(found))


def explanations(net, readings, k):
    """The wrong ties of all explanations with at most k, each with what the right ties tell of the heights.

    Posts that no right ties join can stand as far apart as is needed for all ties between them to be wrong.
    """
    found = []
    for wrong in all_sets(net, k):
        place = clumps(net, readings, wrong)
        if place is not None and not any(tells(place, *net.ties[at]) == readings[at] for at in wrong):
            found.append((wrong, place))
    return found


def tells(place, a, b):
    """By how much b is higher than a by the right ties, or None if they do not join these posts."""
    return place[b][1] - place[a][1] if place[a][0] == place[b][0] else None


def slow_surely(net, readings, k):
    """What is wrong in all explanations and in none, explanation by explanation."""
    several = explanations(net, readings, k)
    if not several:
        return None
    ties = range(len(net))
    return (tuple(at for at in ties if all(at in wrong for wrong, _ in several)),
            tuple(at for at in ties if not any(at in wrong for wrong, _ in several)))


def slow_differences(net, readings, k, a, b):
    """The differences that are possible, explanation by explanation."""
    found = {tells(place, a, b) for _, place in explanations(net, readings, k)}
    return None if None in found else tuple(sorted(found))


class ExampleTest(unittest.TestCase):

    def test_sets(self):
        self.assertEqual(sets(SQUARE, BAD), ((0, 2), (0, 3), (1, 2), (1, 3), (4,)))
        self.assertEqual(fewest_wrong(SQUARE, BAD), 1)
        self.assertEqual(surely(SQUARE, BAD, 1), ((4,), (0, 1, 2, 3)))

    def test_differences(self):
        self.assertEqual(differences(SQUARE, BAD, 1, 0, 2), (1,))
        self.assertEqual(differences(SQUARE, BAD, 2, 0, 2), (1, 8))
        self.assertIsNone(differences(SQUARE, BAD, 3, 0, 1))
        self.assertEqual(differences(SQUARE, BAD, 0, 0, 1), ())

    def test_span(self):
        self.assertIsNone(span(SQUARE, BAD, 2, 0, 2))
        self.assertEqual(span(SQUARE, BAD, 3, 0, 2), (5, 7))


class IsSetTest(unittest.TestCase):

    def test_some(self):
        for value in ((4,), (0, 2), (0, 1, 2, 3, 4), (0, 4), (1, 2, 3)):
            self.assertIs(is_set(SQUARE, BAD, value), True)
        for value in ((), (0,), (0, 1), (2, 3)):
            self.assertIs(is_set(SQUARE, BAD, value), False)

    def test_wrong_forms(self):
        for value in ([4], (4, 4), (4, 0), (0, 4, 2), (5,), (-1, 4), (4, 5), ("4",), (4.0,), ((4,),), (True, 4),
                      (False, 4), (4, None), (4, SQUARE), {4: True}, "4", 4):
            self.assertIs(is_set(SQUARE, BAD, value), False)
            self.assertIs(is_set(SQUARE, GOOD, value), False)

    def test_any_values(self):
        for value in any_values():
            for net, readings in ((ONE, ()), (SQUARE, GOOD), (SQUARE, BAD), (TRIPLE, (1, -1, 2))):
                ties = type(value) is tuple and all(is_number_of(at, len(net)) for at in value)
                if not ties or value != tuple(sorted(set(value))):
                    self.assertIs(is_set(net, readings, value), False)
                else:
                    self.assertIs(is_set(net, readings, value), clumps(net, readings, value) is not None)

    def test_all_sets(self):
        for net, readings in some_cases(40, 21):
            failed = failing(net, readings)
            for ties in all_sets(net):
                wanted = clumps(net, readings, ties) is not None
                self.assertIs(is_set(net, readings, ties), wanted)
                self.assertEqual(wanted, all(any(at in ring for at in ties) for ring in failed))

    def test_readings_that_agree(self):
        self.assertIs(is_set(SQUARE, GOOD, ()), True)
        self.assertIs(is_set(SQUARE, GOOD, (0, 1, 2, 3)), True)
        self.assertIs(is_set(ONE, (), ()), True)
        self.assertIs(is_set(ONE, (), (0,)), False)
        self.assertIs(is_set(value=(), readings=[5], net=PAIR), True)


class SetsTest(unittest.TestCase):

    def test_some(self):
        self.assertEqual(sets(SQUARE, GOOD), ((),))
        self.assertEqual(sets(ONE, ()), ((),))
        self.assertEqual(sets(PAIR, (7,)), ((),))
        self.assertEqual(sets(TRIPLE, (1, 1, 1)), ((0, 2), (1,)))
        self.assertEqual(sets(TRIPLE, (1, 1, 5)), ((0, 1), (0, 2), (1, 2)))
        self.assertEqual(sets(SQUARE, (0, 0, 0, 7, 0)), ((0, 4), (1, 4), (2,), (3,)))

    def test_by_all_sets(self):
        for net, readings in some_cases(150, 22):
            least = slow_sets(net, readings)
            self.assertEqual(sets(net, readings), least, (str(net), readings))
            self.assertEqual(fewest_wrong(net, readings), min(map(len, least)))
            self.assertEqual((() in least), agree(net, readings))

    def test_small_readings(self):
        for net in (TRIPLE, DOUBLED, Net(3, [(0, 1), (2, 1), (0, 2)]), SQUARE):
            for readings in all_errors(net, len(net)):
                least = slow_sets(net, readings)
                self.assertEqual(sets(net, readings), least)
                self.assertEqual(fewest_wrong(net, readings), min(map(len, least)))

    def test_fewest_by_heights(self):
        for net in small_nets():
            levels = [(0, *more) for more in itertools.product(range(-4, 5), repeat=net.posts - 1)]
            for readings in all_errors(net, len(net)):
                wrong = [wrong_at(net, readings, level) for level in levels]
                self.assertEqual(fewest_wrong(net, readings), min(map(len, wrong)))
                self.assertTrue(set(sets(net, readings)) <= set(wrong))

    def test_all_unlike(self):
        source = random.Random(23)
        for net in (LARGEST, FULL, BARBELL, DOUBLED):
            readings = [source.randint(-999999999, 999999999) for _ in net.ties]
            self.assertEqual(sets(net, readings), slow_sets(net, readings))
            self.assertEqual(fewest_wrong(net, readings), len(net) - net.posts + 1)


def wrong_at(net, readings, levels):
    """The ties whose readings are not right for these heights."""
    return tuple(at for at, (one, other) in enumerate(zip(readings, read(net, levels))) if one != other)


class SurelyTest(unittest.TestCase):

    def test_some(self):
        self.assertEqual(surely(SQUARE, GOOD, 0), ((), (0, 1, 2, 3, 4)))
        self.assertEqual(surely(SQUARE, GOOD, 1), ((), (0, 1, 2, 3, 4)))
        self.assertEqual(surely(SQUARE, GOOD, 2), ((), (4,)))
        self.assertEqual(surely(SQUARE, GOOD, 3), ((), ()))
        self.assertEqual(surely(SQUARE, BAD, 2), ((), ()))
        self.assertIsNone(surely(SQUARE, BAD, 0))
        self.assertEqual(surely(PAIR, (7,), 0), ((), (0,)))
        self.assertEqual(surely(PAIR, (7,), 1), ((), ()))
        self.assertEqual(surely(TRIPLE, (1, 1, -1), 1), ((0,), (1, 2)))
        self.assertEqual(surely(TRIPLE, (1, 1, -1), 2), ((), ()))
        for k in (0, 1, 10, 11):
            self.assertEqual(surely(ONE, (), k), ((), ()))

    def test_by_all_explanations(self):
        for net, readings in some_cases(60, 24):
            for k in range(6):
                self.assertEqual(surely(net, readings, k), slow_surely(net, readings, k), (str(net), readings, k))

    def test_more_than_all_ties(self):
        for net, readings in some_cases(20, 25):
            for k in (len(net), 10, 11, 99):
                if k >= len(net):
                    self.assertEqual(surely(net, readings, k), ((), ()))

    def test_what_is_told(self):
        source = random.Random(26)
        for net in (FULL, LARGEST, TRIPLE):
            right = read(net, [source.randint(-999999999, 999999999) for _ in range(net.posts)])
            for at in range(len(net)):
                bad = [reading + (5 if place == at else 0) for place, reading in enumerate(right)]
                others = tuple(other for other in range(len(net)) if other != at)
                self.assertEqual(surely(net, bad, told(net)), ((at,), others))


class DifferencesTest(unittest.TestCase):

    def test_some(self):
        self.assertEqual(differences(SQUARE, GOOD, 0, 3, 1), (-4,))
        self.assertEqual(differences(SQUARE, GOOD, 1, 1, 3), (4,))
        self.assertIsNone(differences(SQUARE, GOOD, 2, 1, 3))
        self.assertEqual(differences(SQUARE, GOOD, 2, 0, 2), (1,))
        self.assertEqual(differences(PAIR, (7,), 0, 1, 0), (-7,))
        self.assertIsNone(differences(PAIR, (7,), 1, 1, 0))
        self.assertEqual(differences(TRIPLE, (1, 1, 5), 1, 0, 1), ())
        self.assertEqual(differences(TRIPLE, (1, 1, 5), 2, 0, 1), (-1, 1, 5))
        self.assertIsNone(differences(TRIPLE, (1, 1, 5), 3, 0, 1))

    def test_one_post_twice(self):
        for k in (0, 1, 10, 11, 10 ** 9):
            self.assertEqual(differences(ONE, (), k, 0, 0), (0,))
            self.assertEqual(differences(SQUARE, GOOD, k, 2, 2), (0,))
            self.assertEqual(differences(SQUARE, BAD, k, 2, 2), (0,) if k else ())

    def test_by_all_explanations(self):
        for net, readings in some_cases(40, 27):
            for k in range(5):
                for a, b in itertools.product(range(net.posts), repeat=2):
                    wanted = slow_differences(net, readings, k, a, b)
                    self.assertEqual(differences(net, readings, k, a, b), wanted, (str(net), readings, k, a, b))

    def test_by_heights(self):
        # The readings are at most 1 and the nets small: what is not every integer is at most 2.
        near = range(-3, 4)
        for net in small_nets():
            levels = [(0, *more) for more in itertools.product(range(-4, 5), repeat=net.posts - 1)]
            for readings in all_errors(net, 3):
                many = {level: len(wrong_at(net, readings, level)) for level in levels}
                for k, post in itertools.product(range(3), range(1, net.posts)):
                    possible = sorted({level[post] for level in levels if many[level] <= k and level[post] in near})
                    every = possible == list(near)
                    self.assertEqual(differences(net, readings, k, 0, post), None if every else tuple(possible))

    def test_greatest_k(self):
        for net, readings in some_cases(20, 28):
            for a, b in itertools.permutations(range(net.posts), 2):
                for k in (10, 11, 99):
                    self.assertIsNone(differences(net, readings, k, a, b))


def slow_span(net, readings, off, a, b):
    """The least and the greatest difference of all heights near enough to these readings, one by one."""
    reach = sum(abs(reading) + off for reading in readings)
    found = []
    for more in itertools.product(range(-reach, reach + 1), repeat=net.posts - 1):
        level = (0, *more)
        if all(abs(one - other) <= off for one, other in zip(read(net, level), readings)):
            found.append(level[b] - level[a])
    return (min(found), max(found)) if found else None


class SpanTest(unittest.TestCase):

    def test_some(self):
        self.assertEqual(span(SQUARE, GOOD, 0, 0, 2), (1, 1))
        self.assertEqual(span(SQUARE, GOOD, 1, 0, 2), (0, 2))
        self.assertEqual(span(SQUARE, GOOD, 1, 2, 0), (-2, 0))
        self.assertEqual(span(SQUARE, GOOD, 1, 1, 3), (2, 6))
        self.assertIsNone(span(SQUARE, BAD, 0, 0, 2))
        self.assertEqual(span(PAIR, (7,), 3, 0, 1), (4, 10))
        self.assertEqual(span(PAIR, (7,), 3, 1, 0), (-10, -4))
        self.assertEqual(span(TRIPLE, (1, 1, 5), 3, 0, 1), (2, 2))
        self.assertIsNone(span(TRIPLE, (1, 1, 5), 2, 0, 1))
        self.assertEqual(span(off=999999999, net=PAIR, b=1, readings=[-999999999], a=0), (-1999999998, 0))

    def test_one_post_twice(self):
        self.assertEqual(span(ONE, (), 0, 0, 0), (0, 0))
        self.assertEqual(span(ONE, (), 10, 0, 0), (0, 0))
        self.assertEqual(span(SQUARE, BAD, 3, 2, 2), (0, 0))
        self.assertIsNone(span(SQUARE, BAD, 2, 2, 2))

    def test_by_all_heights(self):
        source = random.Random(29)
        for net in small_nets():
            for _ in range(8):
                readings = [source.randint(-2, 2) for _ in net.ties]
                for off in range(3):
                    for a, b in itertools.product(range(net.posts), repeat=2):
                        self.assertEqual(span(net, readings, off, a, b), slow_span(net, readings, off, a, b))

    def test_by_heights_that_reach_it(self):
        for net, readings in some_cases(60, 30):
            for off in range(6):
                for a, b in itertools.permutations(range(net.posts), 2):
                    both = span(net, readings, off, a, b)
                    wanted = slow_limits(net, readings, off)
                    self.assertEqual(both, None if wanted is None else (-wanted[b, a], wanted[a, b]))


def slow_limits(net, readings, off):
    """By how much each post can be higher than each other one, by all ways between them; None if barred."""
    most = {(a, b): 0 if a == b else 10 ** 12 for a in range(net.posts) for b in range(net.posts)}
    for (a, b), reading in zip(net.ties, readings):
        most[a, b] = min(most[a, b], reading + off)
        most[b, a] = min(most[b, a], off - reading)
    for c, a, b in itertools.product(range(net.posts), repeat=3):
        most[a, b] = min(most[a, b], most[a, c] + most[c, b])
    return None if any(most[post, post] < 0 for post in range(net.posts)) else most


class PassedOnTest(unittest.TestCase):
    """What the package returned may be passed on, whatever its size."""

    def test_added_to_readings(self):
        first, second = alike_errors(SQUARE, 1)
        right = read(SQUARE, [999999999, -999999999, 5, 0])
        found = right
        for _ in range(7):
            found = [x + y for x, y in zip(found, hidden(SQUARE, 2))]
            self.assertEqual(sets(SQUARE, found), ((),))
            self.assertEqual(fewest_wrong(SQUARE, [x + y for x, y in zip(found, first)]), count_wrong(first))
        one = [x + y for x, y in zip(right, first)]
        for _ in range(7):
            one = [x - y + z for x, y, z in zip(one, second, first)]
        wrong = tuple(at for at, error in enumerate(first) if error)
        self.assertTrue(is_set(SQUARE, one, wrong))
        self.assertEqual(heights(SQUARE, found) is None, False)

    def test_nets_joined_over_and_over(self):
        net = LARGEST
        for _ in range(7):
            net = net.joined(net, [(0, 0), (1, 1)])
        self.assertEqual(net.posts, 768)
        good = read(net, [post * post for post in range(768)])
        self.assertEqual(sets(net, good), ((),))
        bad = [reading + (7 if at == 3 else 0) for at, reading in enumerate(good)]
        self.assertEqual(fewest_wrong(net, bad), 1)
        self.assertEqual(surely(net, bad, 0), None)
        self.assertEqual(differences(net, bad, 1, 0, 767), (767 * 767,))
        self.assertEqual(span(net, good, 0, 0, 767), (767 * 767, 767 * 767))
        self.assertIsNone(span(net, bad, 0, 0, 767))
        self.assertIs(is_set(net, bad, (3,)), True)
        self.assertIs(is_set(net, bad, (2,)), False)

    def test_surely_in_a_net_that_was_joined(self):
        net = LARGEST.joined(LARGEST, [(0, 0), (1, 1), (2, 2)])
        good = read(net, range(12))
        bad = [reading + (7 if at in (3, 14) else 0) for at, reading in enumerate(good)]
        self.assertEqual(surely(net, bad, 2), ((3, 14), tuple(at for at in range(23) if at not in (3, 14))))
        self.assertEqual(sets(BARBELL.joined(BARBELL, [(0, 0)]), [1] + [0] * 14), ((0,), (1,), (2,)))

    def test_wrong_readings_all_over_a_chain(self):
        source = random.Random(31)
        chain, several, whole = TRIPLE, [0, 1, 2], 2
        for _ in range(7):
            chain = chain.joined(LARGEST, [(0, 3)])
            readings = [source.randint(-999999999, 999999999) for _ in LARGEST.ties]
            several = several + readings + [4]
            whole = whole + fewest_wrong(LARGEST, readings)
        self.assertEqual((fewest_wrong(chain, several), whole), (2 + 7 * 5, 2 + 7 * 5))


class WrongReadingsTest(unittest.TestCase):

    def test_wrong_readings(self):
        uses = (sets, fewest_wrong, lambda net, readings: is_set(net, readings, None),
                lambda net, readings: is_set(net, readings, ()), lambda net, readings: surely(net, readings, 1),
                lambda net, readings: differences(net, readings, 1, 0, 0),
                lambda net, readings: span(net, readings, 1, 0, 0))
        for net, value, at in wrong_sequences(lambda value: type(value) is int):
            for use in uses:
                with self.assertRaises(InvalidReadings) as caught:
                    use(net, value)
                self.assertEqual(caught.exception.at, at, value)


if __name__ == "__main__":
    unittest.main()
