"""Ways along ties, and papers that show that wrong readings are always seen."""

from levelties.flows import lot_apart, reach, send, steps, trail
from levelties.nets import is_below


def ways(net, a, b):
    """Some tuple of as many ways from a to b as possible, no two with a common tie."""
    return _ways_apart(net, a, b, len(net))


def cut_between(net, a, b):
    """Some lot with a and without b with as few ties across as possible."""
    return lot_apart(steps(net.posts, net.ties), [a], b, len(net) + 1)


def paper(net, k):
    """Some right paper for k, or None if less is seen."""
    found = [_ways_apart(net, 0, post, k + 1) for post in range(1, net.posts)]
    return tuple(found) if all([len(several) > k for several in found]) else None


def paper_holds(net, k, value):
    """Whether any value is a right paper for k."""
    if not isinstance(value, tuple) or len(value) != net.posts - 1:
        return False
    return all([_are_ways(net, several, post, k + 1) for post, several in enumerate(value, start=1)])


def _ways_apart(net, a, b, most):
    """Some tuple of as many ways from a to b as possible, but at most `most`, no two with a common tie."""
    table = steps(net.posts, net.ties)
    flow, sent = send(table, [a], b, most)
    found = []
    for _ in range(sent):
        way = _way_along(table, flow, a, b)
        found.append(way)
        flow = {at: sign for at, sign in flow.items() if at not in way}
    return tuple(found)


def _way_along(table, flow, a, b):
    """A way from a to b along ties where there is a flow."""
    flowing = [[(at, other, sign) for at, other, sign in row if flow.get(at, 0) == sign] for row in table]
    back = [step[1] for step in trail(reach(flowing, {}, [a]), b)]
    return tuple(back[::-1])


def _are_ways(net, value, post, need):
    """Whether any value is a tuple of at least so many ways from post 0 to this one, no two with a common tie."""
    if not isinstance(value, tuple) or len(value) < need:
        return False
    if not all([_is_way(net, way, post) for way in value]):
        return False
    ties = [at for way in value for at in way]
    return len(set(ties)) == len(ties)


def _is_way(net, value, goal):
    """Whether any value is a tuple of ties that lead from post 0 to the goal, perhaps with some tie twice."""
    if not isinstance(value, tuple) or not all([is_below(at, len(net)) for at in value]):
        return False
    post = 0
    for at in value:
        a, b = net.ties[at]
        if post not in (a, b):
            return False
        post = a + b - post
    return post == goal
