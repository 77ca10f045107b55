"""The fewest further ties with which so many wrong readings are seen, and why fewer can't do.

For this each lot needs k + 1 ties across (here a lot is not empty and has not all posts). At first *lines* are drawn,
from posts to an anchor beside the net: as few as possible, so that each lot has enough ties and lines across. Then
two lines at a time give way to a tie between their ends, so that each lot still has enough: by a theorem of Lovasz
some two always can. A lot is *full* if it has just as many ties and lines across as it needs. All lines end in
full lots without common posts: so many lines are needed, and half as many ties.
"""

from levelties.flows import reach, send, steps


def further(net, k):
    """Some tuple of the fewest further ties with which at least k wrong readings are seen."""
    ends, _ = _lines(net, k + 1)
    if len(ends) % 2 == 1:
        ends = [*ends, ends[0]]
    ties = []
    while ends:
        first, *rest = ends
        second = _second_end(net, first, rest, k + 1)
        net = net.further([(first, second)])
        ends = _without_one(rest, second)
        ties.append((first, second))
    return tuple(ties)


def bound(net, k):
    """Some tuple of lots without common posts for which just as many ties are needed."""
    _, lots = _lines(net, k + 1)
    return tuple(_parted(lots, net.posts))


def _lines(net, need):
    """The posts at which the fewest lines end, each as often as lines do, and full lots that have all of these."""
    # Post 0 is decided last, and is held to the anchor until then: it is as if very many lines ended there.
    ends = [post for post in range(1, net.posts) for _ in range(need)]
    lots = []
    for post in list(range(1, net.posts)) + [0]:
        ends = [end for end in ends if end != post]
        # What is not in a lot with post 0 has the same ties across, so that some line ends there already.
        held = [0] if post != 0 else sorted(set(ends))
        short, lot = max([_most_short(net, ends, [other], post, need) for other in held], default=(0, ()))
        if short > 0:
            ends = ends + [post] * short
            lots.append(lot)
    return ends, lots


def _most_short(net, ends, held, post, need):
    """How many more ties and lines are needed across some lot with the post, and this lot: none needs more.

    Lots with posts that are held to the anchor do not count. If no lot needs more, this is 0 and some posts.
    """
    anchor = net.posts
    lines = [(anchor, end) for end in ends]
    table = steps(anchor + 1, [*net.ties, *lines])
    flow, sent = send(table, [anchor, *held], post, need)
    came = reach(table, flow, [anchor, *held])
    return need - sent, tuple([other for other in range(net.posts) if other not in came])


def _second_end(net, first, rest, need):
    """The end of some line of the rest that can give way together with one to the first post: there always is one."""
    for second in reversed(sorted(set(rest))):
        if second != first and _can_give_way(net, first, second, _without_one(rest, second), need):
            return second


def _can_give_way(net, first, second, left, need):
    """Whether each lot still has enough when lines to both posts gave way to a tie, and the others are left."""
    # Only lots with both lose lines. So many ties hold the two together, and are not across these lots.
    net = net.further([(first, second)] * need)
    # A lot that is short leaves out the end of some line, as what is not in it has no more ties across.
    # But this is of no matter while there are so many lines that the lot of all posts is not short.
    others = [[end] for end in sorted(set(left)) if end not in (first, second)]
    several = [[]] if len(left) >= need else others
    return all([_most_short(net, left, held, first, need)[0] == 0 for held in several])


def _without_one(ends, gone):
    """The ends without one that is gone, once."""
    at = ends.index(gone)
    return ends[:at] + ends[at + 1:]


def _parted(lots, posts):
    """Full lots without common posts, with all ends of lines that these full lots have.

    Two full lots with common posts are also full together. But if these are all posts, no line ends in
    both, and each is full without the posts of the other.
    """
    found = []
    for lot in lots:
        meeting = [other for other in found if len(set(lot) & set(other)) > 0]
        found = [other for other in found if other not in meeting]
        for other in meeting:
            both = tuple(sorted(set(lot) | set(other)))
            if len(both) == posts:
                return [tuple(sorted(set(lot) - set(other))), tuple(sorted(set(other) - set(lot)))]
            lot = both
        found.append(lot)
    return found
