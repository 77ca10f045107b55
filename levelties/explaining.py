"""What told readings leave open: which of them can be wrong, and by how much one post can be higher than another.

If some explanation has certain wrong ties, there is one with a least set of them that has the same
right ties and more. So all follows from the least sets, and from what it takes to part posts further.
"""

from levelties.fewest import fewest
from levelties.flows import lot_apart, spread, steps
from levelties.least import least_sets
from levelties.nets import is_below
from levelties.readings import check_readings, places_along, wrong_ties


def is_set(net, readings, value):
    """Whether any value is an ascending tuple of unlike ties such that the readings of all others agree."""
    check_readings(net, readings)
    if not isinstance(value, tuple) or not all([is_below(at, len(net)) for at in value]):
        return False
    if list(value) != sorted(set(value)):
        return False
    return all([at in value for at in wrong_ties(net.ties, readings, _places_without(net, readings, value))])


def sets(net, readings):
    """The ascending tuple of all least sets of ties that can be wrong."""
    check_readings(net, readings)
    return least_sets(net, readings, len(net))


def fewest_wrong(net, readings):
    """The least number of wrong ties of an explanation."""
    check_readings(net, readings)
    return fewest(net, readings)


def surely(net, readings, k):
    """The ties that are wrong in all explanations with at most k wrong ties, and in none; None if there are none."""
    check_readings(net, readings)
    several = least_sets(net, readings, k)
    if not several:
        return None
    rests = _rests(net, several, k)
    always = [at for at in range(len(net)) if all([at in wrong for wrong in several])]
    never = [at for at, (a, b) in enumerate(net.ties)
             if not any([at in wrong for wrong in several]) and not _can_part(rests, a, b)]
    return tuple(always), tuple(never)


def differences(net, readings, k, a, b):
    """The integers by which b can be higher than a with at most k wrong ties, ascending; None if every one can be."""
    check_readings(net, readings)
    several = least_sets(net, readings, k)
    if a != b and _can_part(_rests(net, several, k), a, b):
        return None
    found = [_places_without(net, readings, wrong) for wrong in several]
    return tuple(sorted(set([places[b][1] - places[a][1] for places in found])))


def span(net, readings, off, a, b):
    """The least and the greatest integer by which b can be higher than a if each reading is off by `off` at most.

    None if there are no such heights.
    """
    check_readings(net, readings)
    above = _greatest(net, readings, off, a)
    if above is None:
        return None
    return -_greatest(net, readings, off, b)[a], above[b]


def _places_without(net, readings, gone):
    """The places of the posts by the readings of the ties that are not gone."""
    return places_along(spread(steps(net.posts, net.ties, gone)), readings)


def _rests(net, several, k):
    """For each of several sets the steps along all other ties, and how many of these are too many to be wrong too."""
    return [(steps(net.posts, net.ties, wrong), k - len(wrong) + 1) for wrong in several]


def _can_part(rests, a, b):
    """Whether a and b can be parted by further wrong ties: then every difference of their heights is possible."""
    for table, need in rests:
        if lot_apart(table, [a], b, need) is not None:
            return True
    return False


def _greatest(net, readings, off, start):
    """For each post the greatest integer by which it can be higher than the start, or None if there are no heights."""
    limits = [(a, b, off + reading) for (a, b), reading in zip(net.ties, readings)]
    limits += [(b, a, off - reading) for (a, b), reading in zip(net.ties, readings)]
    found = {start: 0}
    for _ in range(net.posts):
        changed = False
        for a, b, most in limits:
            if a in found and found[a] + most < found.get(b, found[a] + most + 1):
                found[b] = found[a] + most
                changed = True
        if not changed:
            return found
    # Ways with more steps than this go round, so that there is always a narrower limit.
    return None
