"""Posts that sank, or rose, once while the readings were taken."""

from levelties.flows import spread, steps
from levelties.readings import check_readings, places_along, wrong_ties


def amounts(net, readings, post, at):
    """The integers by which a post can have been changed ahead of the reading of a tie: none, one, or None for all."""
    check_readings(net, readings)
    return _amounts(net, readings, post, at)


def sinks(net, readings):
    """The ascending tuple of the pairs of a post and a tie where this is one integer other than 0."""
    check_readings(net, readings)
    pairs = [(post, at) for post in range(net.posts) for at in net.ties_at(post)]
    return tuple([(post, at) for post, at in pairs if _amounts(net, readings, post, at) not in ((), (0,), None)])


def _amounts(net, readings, post, at):
    """As amounts: the post is taken as two, and the ties from this one on are at the second."""
    second = net.posts
    ties = [_moved(tie, post, second) if number >= at else tie for number, tie in enumerate(net.ties)]
    places = places_along(spread(steps(net.posts + 1, ties)), readings)
    if wrong_ties(ties, readings, places):
        return ()
    (start, before), (other, behind) = places[post], places[second]
    return (behind - before,) if start == other else None


def _moved(tie, post, second):
    """The tie with another post in the place of one."""
    return tuple([second if end == post else end for end in tie])
