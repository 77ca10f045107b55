"""Readings of a net's ties, and the rings by which they can be checked."""

from levelties.errors import InvalidReadings
from levelties.flows import spread, steps
from levelties.nets import is_integer, is_sequence


def check_readings(net, readings):
    """Raise InvalidReadings if any value is not an integer for each tie."""
    if not is_sequence(readings) or len(readings) != len(net):
        raise InvalidReadings(0)
    for at, reading in enumerate(readings):
        if not is_integer(reading):
            raise InvalidReadings(at)


def read(net, heights):
    """The right readings of all ties for these heights."""
    return tuple([heights[b] - heights[a] for a, b in net.ties])


def agree(net, readings):
    """Whether all readings are right for some heights."""
    return heights(net, readings) is not None


def heights(net, readings, first=0):
    """The heights for which all readings are right, with this one of post 0, or None."""
    check_readings(net, readings)
    places = places_along(spread(steps(net.posts, net.ties)), readings)
    if wrong_ties(net.ties, readings, places):
        return None
    return tuple([first + level for _, level in places])


def places_along(came, readings):
    """For each post its place: the start from which it was reached, and how much it is higher than that.

    This is by the readings along the steps with which the posts came (as spread has them), whatever others say.
    """
    found = {}
    for post, step in came.items():
        if step is None:
            found[post] = (post, 0)
        else:
            ahead, at, way = step
            start, level = found[ahead]
            found[post] = (start, level + way * readings[at])
    return tuple([found[post] for post in range(len(came))])


def wrong_ties(ties, readings, places):
    """The ties between places with unlike starts, or with another difference than was read."""
    found = []
    for at, (a, b) in enumerate(ties):
        (start, low), (other, high) = places[a], places[b]
        if start != other or high - low != readings[at]:
            found.append(at)
    return found


def rings(net):
    """The ascending tuple of all rings."""
    return tuple(sorted([_ring(lap) for lap in _laps(net)]))


def failing(net, readings):
    """The ascending tuple of the rings whose readings do not sum to 0."""
    check_readings(net, readings)
    return tuple(sorted([_ring(lap) for lap in _laps(net) if _sum_round(lap, readings) != 0]))


def _ring(lap):
    """The ring of the ties of a lap."""
    return tuple(sorted([at for at, _ in lap]))


def _sum_round(lap, readings):
    """The sum of the readings, going round."""
    return sum([way * readings[at] for at, way in lap])


def _laps(net):
    """For each ring a tuple of the pairs (tie, 1 or -1 as in a flow) that one goes along, from its least tie on."""
    table = steps(net.posts, net.ties)
    found = []
    for at, (a, b) in enumerate(net.ties):
        found.extend(_laps_from(table, at, a, b))
    return found


def _laps_from(table, least, home, start):
    """The laps that begin with the tie `least` from home to start, and go back by later ties."""
    found = []
    waiting = [(((least, 1),), (home, start))]
    while waiting:
        lap, passed = waiting.pop()
        for at, other, way in table[passed[-1]]:
            if at > least and other == home:
                found.append((*lap, (at, way)))
            elif at > least and other not in passed and _gets_home(table, least, passed, other):
                waiting.append(((*lap, (at, way)), (*passed, other)))
    return found


def _gets_home(table, least, passed, start):
    """Whether later ties lead from the start to the first post passed, by no other one passed.

    Without this, nets of many posts have too many ways that lead nowhere.
    """
    waiting = [start]
    known = {start: True}
    while waiting:
        post = waiting.pop()
        for at, other, _ in table[post]:
            if at > least and other == passed[0]:
                return True
            if at > least and other not in known and other not in passed:
                known[other] = True
                waiting.append(other)
    return False
