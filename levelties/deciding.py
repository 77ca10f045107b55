"""What can be seen and told about a net, for all heights and all errors.

Hidden errors are not 0 along all ties across some lot, and each lot has such errors:
so all of this is a matter of how many ties there are across lots.
"""

from levelties.flows import lot_apart, lots_apart, steps
from levelties.readings import read


def least_lot(net):
    """Some lot with post 0, not all posts, with as few ties across as can be, or None for one post."""
    table = steps(net.posts, net.ties)
    best = None
    need = len(net) + 1
    for goal in range(1, net.posts):
        lot = lot_apart(table, [0], goal, need)
        if lot is not None:
            best = lot
            need = len(net.across(lot))
    return best


def least_cut(net):
    """The least number of ties across a lot that is neither empty nor all posts, or None for one post."""
    lot = least_lot(net)
    return None if lot is None else len(net.across(lot))


def least_cuts(net):
    """The ascending tuple of all lots with post 0 that have so few ties across."""
    least = least_cut(net)
    table = steps(net.posts, net.ties)
    found = []
    # Each lot comes up once: for the first post that is not in it.
    for goal in range(1, net.posts):
        found.extend(lots_apart(table, list(range(goal)), goal, least))
    return tuple(sorted(found))


def seen(net):
    """The greatest k such that no errors with at most k that are not 0 are hidden, or None for one post."""
    least = least_cut(net)
    return None if least is None else least - 1


def told(net):
    """The greatest k such that no two unlike errors with at most k that are not 0 look alike, or None for one post."""
    least = least_cut(net)
    return None if least is None else (least - 1) // 2


def hidden(net, k):
    """Some hidden errors with at most k that are not 0, or None if there are none."""
    lot = least_lot(net)
    if lot is None or len(net.across(lot)) > k:
        return None
    return read(net, [0 if post in lot else 1 for post in range(net.posts)])


def alike_errors(net, k):
    """Some pair of unlike errors that look alike, each with at most k that are not 0, or None if there are none."""
    both = hidden(net, 2 * k)
    if both is None:
        return None
    wrong = [at for at, error in enumerate(both) if error != 0]
    half = wrong[:len(wrong) // 2]
    first = tuple([error if at in half else 0 for at, error in enumerate(both)])
    second = tuple([one - error for one, error in zip(first, both)])
    return first, second


def needed(net):
    """The ascending tuple of the ties without which the net is not joined, or less is seen."""
    least = least_cut(net)
    if least is None:
        return ()
    # These are the ties across the lots that have fewest: no lot with more ties parts their posts.
    place = {post: at for at, lot in enumerate(held_lots(net, least + 1)) for post in lot}
    return tuple([at for at, (a, b) in enumerate(net.ties) if place[a] != place[b]])


def classes(net, k):
    """The ascending tuple of the lots of posts whose differences are sure with up to k wrong readings."""
    return held_lots(net, 2 * k + 1)


def held_lots(net, need):
    """The ascending tuple of the lots of posts that are not parted by fewer than `need` ties."""
    table = steps(net.posts, net.ties)
    found = []
    waiting = [([0], list(range(1, net.posts)))]
    while waiting:
        held, rest = waiting.pop()
        if not rest:
            found.append(tuple(sorted(held)))
            continue
        lot = lot_apart(table, [held[0]], rest[0], need)
        if lot is None:
            waiting.append(([*held, rest[0]], rest[1:]))
        else:
            waiting.append((held, [post for post in rest if post in lot]))
            waiting.append((rest[:1], [post for post in rest[1:] if post not in lot]))
    return tuple(sorted(found))
