"""Nets whose ties are read one by one."""

from levelties.errors import InvalidReadings, NoTie, Refused
from levelties.flows import spread, steps
from levelties.nets import is_below, is_integer, is_sequence
from levelties.readings import places_along, wrong_ties


class Live:
    """A net with the readings so far, and what they tell."""

    def __init__(self, net):
        self.net = net
        self.known = ()
        self.left = ()
        # The places of the posts by the readings so far, or None if these do not agree.
        self._places = _places_by(net, ())
        # What was known ahead of each deed that can be taken back.
        self._ahead = ()

    def __len__(self):
        return len(self._ahead)

    def keep(self, at, value):
        """Keep the reading of a tie, in the place of an earlier one; whether the readings so far agree."""
        if not is_below(at, len(self.net)):
            raise NoTie(at)
        if not is_integer(value):
            raise InvalidReadings(at)
        return self._keep_all([(at, value)])[0]

    def drop(self, at):
        """Forget the reading of a tie."""
        if not is_below(at, len(self.net)) or at not in dict(self.known):
            raise NoTie(at)
        self._ahead = (*self._ahead, self.known)
        self._know(_without(self.known, at))

    def several(self, pairs):
        """Keep a reading for each pair (tie, reading), or for none; for each whether the readings then agree."""
        if not is_sequence(pairs):
            raise Refused(0)
        for at, pair in enumerate(pairs):
            if not _is_reading(self.net, pair):
                raise Refused(at)
        return self._keep_all(pairs)

    def between(self, a, b):
        """How much b is higher than a by the readings so far; None if they do not tell it, or do not agree."""
        if self._places is None:
            return None
        (start, low), (other, high) = self._places[a], self._places[b]
        return high - low if start == other else None

    def undo(self):
        """Take back the last deed; whether there was one."""
        if not self._ahead:
            return False
        *ahead, known = self._ahead
        self._ahead = tuple(ahead)
        self._know(known)
        return True

    def within(self, work):
        """What work(self) returns; behind it all is as it was ahead, also if it ends by an error."""
        known, left, places, ahead = self.known, self.left, self._places, self._ahead
        try:
            return work(self)
        finally:
            self.known, self.left, self._places, self._ahead = known, left, places, ahead

    def _keep_all(self, pairs):
        """Keep all these readings, as one deed; for each whether the readings then agree."""
        self._ahead = (*self._ahead, self.known)
        agreeing = []
        for at, value in pairs:
            self._know(tuple(sorted([*_without(self.known, at), (at, value)])))
            agreeing.append(self._places is not None)
        return tuple(agreeing)

    def _know(self, known):
        """Take these pairs of a tie and its reading for what is known."""
        self.known = known
        self._places = _places_by(self.net, known)
        self.left = _told_by(self.net, known, self._places)


def _is_reading(net, value):
    """Whether any value is a pair of a tie and an integer."""
    return isinstance(value, tuple) and len(value) == 2 and is_below(value[0], len(net)) and is_integer(value[1])


def _without(known, at):
    """The pairs but for that of a tie."""
    return tuple([pair for pair in known if pair[0] != at])


def _places_by(net, known):
    """The places of the posts by what is known, or None if these readings do not agree."""
    ties = [net.ties[at] for at, _ in known]
    readings = [reading for _, reading in known]
    places = places_along(spread(steps(net.posts, ties)), readings)
    return None if wrong_ties(ties, readings, places) else places


def _told_by(net, known, places):
    """The ascending tuple of the ties that are not known, but between posts whose difference the places tell."""
    if places is None:
        return ()
    table = dict(known)
    return tuple([at for at, (a, b) in enumerate(net.ties) if at not in table and places[a][0] == places[b][0]])
