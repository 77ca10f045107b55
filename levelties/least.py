"""The least sets of ties that can be wrong together: those with a tie of each failing ring."""

from levelties.flows import spread, steps, trail
from levelties.readings import places_along, wrong_ties


def least_sets(net, readings, most):
    """The ascending tuple of all least sets with at most `most` ties."""
    found = []
    waiting = [((), ())]
    while waiting:
        wrong, right = waiting.pop()
        left = most - len(wrong)
        # Each of several rings needs a wrong tie of its own. They are not looked for if they cannot be too many.
        spare = len(net) - len(wrong) - net.posts + 1
        rings = _rings_apart(net, readings, wrong, right, left + 1 if left < spare else 1)
        if not rings and _is_least(net, readings, wrong):
            found.append(tuple(sorted(wrong)))
        if rings and len(rings) <= left:
            for at in rings[0]:
                waiting.append(((*wrong, at), right))
                right = (*right, at)
    return tuple(sorted(found))


def _is_least(net, readings, wrong):
    """Whether a set that was found has no part that is one, too: then none of its ties is right by the others.

    The others join all posts, as each tie of the set was taken from a ring.
    """
    places = places_along(spread(steps(net.posts, net.ties, wrong)), readings)
    return len(wrong_ties(net.ties, readings, places)) == len(wrong)


def _rings_apart(net, readings, wrong, right, most):
    """Some failing rings without the wrong ties, at most `most`: of each the ties that are not taken as right.

    No two have such a tie in common. If a ring has none, nothing can be wrong in it, and it comes alone.
    """
    found = []
    gone = {at: True for at in wrong}
    while len(found) < most:
        ring = _failing_ring(net, readings, gone, right)
        if ring is None:
            break
        if not ring:
            return [ring]
        found.append(ring)
        gone.update({at: True for at in ring})
    return found


def _failing_ring(net, readings, gone, right):
    """Of a failing ring without the ties that are gone, those that are not taken as right; None if all agree."""
    came = spread(steps(net.posts, net.ties, gone))
    places = places_along(came, readings)
    closing = [at for at in wrong_ties(net.ties, readings, places) if at not in gone]
    rings = [[step for step in _ring_by(net, came, at) if step not in right] for at in closing]
    return min(rings, key=len, default=None)


def _ring_by(net, came, at):
    """The ties of the ring that a tie closes with the ways on which its posts came."""
    first, second = [[step[1] for step in trail(came, post)] for post in net.ties[at]]
    return sorted(set(first) ^ set(second)) + [at]
