"""Readings that fail together: what can be seen and told when whole groups of ties can be wrong.

As for single ties, errors are hidden if and only if they are across some lot. So all is a matter
of how few groups have ties across one.
"""

from levelties.deciding import least_lot
from levelties.errors import InvalidGroups
from levelties.flows import first_joined, reach, steps
from levelties.nets import is_integer, is_sequence


def check_groups(net, groups):
    """Raise InvalidGroups if any value is not a number for each tie."""
    if not is_sequence(groups) or len(groups) != len(net):
        raise InvalidGroups(0)
    for at, group in enumerate(groups):
        if not is_integer(group) or group < 0:
            raise InvalidGroups(at)


def seen_groups(net, groups):
    """The greatest k such that no errors of at most k groups are hidden, or None for one post."""
    lot = weak_lot(net, groups)
    return None if lot is None else _count_across(net, groups, lot) - 1


def told_groups(net, groups):
    """The greatest k such that no two unlike errors, each of at most k groups, look alike, or None for one post."""
    lot = weak_lot(net, groups)
    return None if lot is None else (_count_across(net, groups, lot) - 1) // 2


def weak_lot(net, groups):
    """Some lot with post 0, not all posts, with ties of as few groups across as possible, or None for one post."""
    check_groups(net, groups)
    lot = least_lot(net)
    if lot is None:
        return None
    # Across each lot there are at least as many ties, and of one group no more than the largest has.
    bound = -(-len(net.across(lot)) // max([groups.count(group) for group in groups]))
    many = _count_across(net, groups, lot)
    while many > bound:
        weaker = _weaker_lot(net, groups, many - 1)
        if weaker is None:
            break
        lot = weaker
        many = _count_across(net, groups, lot)
    return lot


def _count_across(net, groups, lot):
    """How many groups have ties across the lot."""
    return len(set([groups[at] for at in net.across(lot)]))


def _weaker_lot(net, groups, most):
    """Some lot with post 0, not all posts, with ties of at most `most` groups across, or None."""
    waiting = [((), ())]
    while waiting:
        across, inside = waiting.pop()
        # Posts joined by a tie that is not across are on one side, and are taken as one post.
        held = first_joined(steps(net.posts, net.ties, _ties_but(groups, inside)))
        ties = [(held[a], held[b]) for a, b in net.ties]
        came = reach(steps(net.posts, ties, _ties_of(groups, across)), {}, [0])
        lot = tuple([post for post in range(net.posts) if held[post] in came])
        if len(lot) < net.posts:
            return lot
        if len(across) < most:
            # Some of the ties by which all are still joined must be across.
            for group in sorted(set([groups[step[1]] for step in came.values() if step is not None])):
                waiting.append(((*across, group), inside))
                inside = (*inside, group)
    return None


def _ties_of(groups, some):
    """A dict of the ties of some of the groups."""
    return {at: True for at, group in enumerate(groups) if group in some}


def _ties_but(groups, some):
    """A dict of the ties of all groups but some."""
    return {at: True for at, group in enumerate(groups) if group not in some}
