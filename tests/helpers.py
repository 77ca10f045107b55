"""What several tests use: nets, wrong values, and slow ways to find what the package finds fast."""

import itertools
import random

from levelties.desk import Desk
from levelties.errors import InvalidNet, LevelError, NoTie
from levelties.live import Live
from levelties.nets import Net
from levelties.readings import read

ONE = Net(1)
PAIR = Net(2, [(0, 1)])
TRIPLE = Net(2, [(0, 1), (1, 0), (0, 1)])
ROW = Net(4, [(0, 1), (1, 2), (2, 3)])
SQUARE = Net(4, [(0, 1), (1, 2), (2, 3), (3, 0), (0, 2)])
FULL = SQUARE.further([(1, 3)])
# Two triangles by one tie, and the largest net of the limits: 6 posts and 10 ties.
BARBELL = Net(6, [(0, 1), (1, 2), (2, 0), (3, 4), (4, 5), (5, 3), (5, 0)])
LARGEST = Net(6, [(0, 1), (1, 2), (2, 3), (3, 4), (4, 5), (5, 0), (0, 3), (1, 4), (2, 5), (5, 1)])
DOUBLED = Net(3, [(0, 1), (1, 0), (2, 1), (1, 2), (1, 2)])

NAMED = [ONE, PAIR, TRIPLE, ROW, SQUARE, FULL, BARBELL, LARGEST, DOUBLED]


def some_nets(many, seed, most_posts=6, most_ties=10):
    """Nets of all sizes within the limits, always the same for a seed."""
    source = random.Random(seed)
    found = []
    while len(found) < many:
        posts = source.randint(2, most_posts)
        ties = [tuple(source.sample(range(posts), 2)) for _ in range(source.randint(posts - 1, most_ties))]
        try:
            found.append(Net(posts, ties))
        except InvalidNet:
            pass
    return found


def small_nets():
    """All nets of two or three posts with at most four ties, in one direction of each tie."""
    found = []
    for posts, pairs in ((2, [(1, 0)]), (3, [(0, 1), (2, 1), (0, 2)])):
        for many in range(posts - 1, 5):
            for ties in itertools.combinations_with_replacement(pairs, many):
                try:
                    found.append(Net(posts, ties))
                except InvalidNet:
                    pass
    return found


def any_values():
    """Values of every kind that [1] names, also nested ones."""
    plain = [0, 1, -1, 2, 10, 999999999, -999999999, True, False, None, "", "a", "0", "01", "posts 1",
             PAIR, ONE, LevelError(), InvalidNet("ties"), NoTie(3), Live(PAIR), Desk()]
    nested = []
    for _ in range(8):
        nested = [nested]
    return plain + [[], (), (0,), [0], (0, 1), [0, 1], [(0, 1)], ((0, 1),), [[0, 1]], (None,), [True, False],
                    ((0, 1, 2),), [(0, "1")], (0, (1,)), [(0, True)], [(False, 1)], [(0.0 == 0, 1)], nested, (nested,),
                    [PAIR], (PAIR, PAIR), [(PAIR, 0)], [Live(ONE)], (0, Desk())]


def is_number_of(value, many):
    """Whether any value is a number below `many`."""
    return type(value) is int and 0 <= value < many


def wrong_sequences(is_right):
    """Triples of a net, a value that is no sequence of a right thing for each tie, and the number of what is wrong."""
    found = [(ROW, "123", 0), (ROW, {0: 1, 1: 2, 2: 3}, 0), (ROW, (1, "2"), 0), (ROW, [1, 2, 3, None], 0)]
    for value in any_values():
        for net in (ROW, ONE):
            if type(value) not in (list, tuple) or len(value) != len(net):
                found.append((net, value, 0))
        if not is_right(value):
            found.extend([(PAIR, [value], 0), (ROW, (value, value, 1), 0), (ROW, (1, value, value), 1),
                          (TRIPLE, [0, 999999999, value], 2)])
    return found


def places(net, gone=()):
    """For each post the least one to which it is joined by the ties that are not gone."""
    place = list(range(net.posts))
    for _ in range(net.posts):
        for at, (a, b) in enumerate(net.ties):
            if at not in gone:
                place[a] = place[b] = min(place[a], place[b])
    return place


def lots_with_first(net):
    """All lots with post 0 that are not all posts."""
    others = range(1, net.posts)
    return [(0, *more) for many in range(net.posts - 1) for more in itertools.combinations(others, many)]


def slow_cut(net):
    """The least number of ties across a lot, lot by lot."""
    return min(len(net.across(lot)) for lot in lots_with_first(net))


def joined_over(net, ties, times=7):
    """A net joined with itself over and over, by the same ties."""
    for _ in range(times):
        net = net.joined(net, ties)
    return net


def parting(net, k, a, b):
    """Whether the posts are parted without some k ties (or fewer)."""
    ties = range(len(net))
    for gone in itertools.combinations(ties, min(k, len(net))):
        place = places(net, gone)
        if place[a] != place[b]:
            return True
    return False


def all_rings(net):
    """All rings: ties that are joined to each other, with two of them at each of their posts."""
    found = []
    for many in range(2, len(net) + 1):
        for ring in itertools.combinations(range(len(net)), many):
            posts = [post for at in ring for post in net.ties[at]]
            place = places(net, [at for at in range(len(net)) if at not in ring])
            if all(posts.count(post) == 2 for post in posts) and len({place[post] for post in posts}) == 1:
                found.append(ring)
    return tuple(sorted(found))


def all_errors(net, k):
    """All errors of -1, 0 and 1 with at most k that are not 0."""
    return [errors for errors in itertools.product((0, 1, -1), repeat=len(net)) if count_wrong(errors) <= k]


def count_wrong(errors):
    """How many errors are not 0."""
    return sum(1 for error in errors if error != 0)


def solve(net, readings):
    """The heights by the readings, found without the package: post by post, or None."""
    known = {0: 0}
    for _ in range(net.posts):
        for (a, b), reading in zip(net.ties, readings):
            if a in known:
                known.setdefault(b, known[a] + reading)
            if b in known:
                known.setdefault(a, known[b] - reading)
    right = all(known[b] - known[a] == reading for (a, b), reading in zip(net.ties, readings))
    return tuple(known[post] for post in range(net.posts)) if right else None


def clumps(net, readings, gone=()):
    """For each post the least post to which ties that are not gone join it, and its height above that.

    None if their readings are not right for any heights. Found without the package: tie by tie.
    """
    place = [(post, 0) for post in range(net.posts)]
    for at, (a, b) in enumerate(net.ties):
        if at in gone:
            continue
        (first, low), (other, high) = place[a], place[b]
        if first != other:
            up = low + readings[at] - high
            place = [(first, level + up) if clump == other else (clump, level) for clump, level in place]
        elif high - low != readings[at]:
            return None
    return place


def all_sets(net, most=10):
    """All ascending tuples of at most so many unlike ties, the shorter ones first."""
    return [ties for many in range(min(most, len(net)) + 1) for ties in itertools.combinations(range(len(net)), many)]


def wrong_readings(net, source, many):
    """Readings of small heights of which about so many are wrong, mostly by little."""
    found = list(read(net, [source.randint(-3, 3) for _ in range(net.posts)]))
    for _ in range(many if net.ties else 0):
        found[source.randrange(len(net))] += source.choice((-2, -1, 1, 1, 2, 7))
    return tuple(found)


def all_tuples(value):
    """Whether no list stands anywhere in a value."""
    if isinstance(value, tuple):
        return all(all_tuples(part) for part in value)
    return not isinstance(value, list)
