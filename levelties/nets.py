"""Nets of posts and ties, and what tells numbers from other values."""

from levelties.errors import InvalidNet, InvalidText, NoPost, NoTie
from levelties.flows import reach, steps


def is_integer(value):
    """Whether any value is an integer: no bool."""
    return isinstance(value, int) and not isinstance(value, bool)


def is_below(value, limit):
    """Whether any value is a number less than the limit."""
    return is_integer(value) and 0 <= value < limit


def is_sequence(value):
    """Whether any value is a list or a tuple."""
    return isinstance(value, (list, tuple))


def is_short_number(word, most=2):
    """Whether a string is some decimal digits, at most `most`, without a leading zero."""
    if not 1 <= len(word) <= most or not all([sign in "0123456789" for sign in word]):
        return False
    return word == "0" or word[0] != "0"


def _is_pair(value, low, high):
    """Whether any value is a pair of a number less than low and one less than high."""
    if not isinstance(value, tuple) or len(value) != 2:
        return False
    return is_below(value[0], low) and is_below(value[1], high)


def _are_pairs(value, low, high):
    """Whether any value is a sequence of such pairs."""
    return is_sequence(value) and all([_is_pair(pair, low, high) for pair in value])


def _are_ties(value, posts):
    """Whether any value is a sequence of pairs of unlike posts."""
    return _are_pairs(value, posts, posts) and all([a != b for a, b in value])


def _are_joined(posts, ties):
    """Whether one can go from each post to each other one along the ties."""
    # Too few ties are refused first, as any number of posts may be asked for.
    if len(ties) < posts - 1:
        return False
    return len(reach(steps(posts, ties), {}, [0])) == posts


def _line_numbers(line, first, many):
    """The numbers of a line behind its first word, or None if it is not of this form."""
    word, *rest = line.split(" ")
    if word != first or len(rest) != many or not all([is_short_number(part) for part in rest]):
        return None
    return tuple([int(part) for part in rest])


class Net:
    """Posts and the ties between them, by which all are joined."""

    def __init__(self, posts, ties=()):
        if not is_integer(posts) or posts < 1:
            raise InvalidNet("posts")
        if not _are_ties(ties, posts):
            raise InvalidNet("ties")
        if not _are_joined(posts, ties):
            raise InvalidNet("joined")
        self.posts = posts
        self.ties = tuple(ties)

    @classmethod
    def read(cls, text):
        """The net with this text."""
        rows = []
        for at, line in enumerate(text.split("\n")):
            row = _line_numbers(line, "posts", 1) if at == 0 else _line_numbers(line, "tie", 2)
            if row is None:
                raise InvalidText(at)
            rows.append(row)
        return cls(rows[0][0], rows[1:])

    def __len__(self):
        return len(self.ties)

    def __getitem__(self, at):
        if not is_below(at, len(self.ties)):
            raise NoTie(at)
        return self.ties[at]

    def __iter__(self):
        raise TypeError("a net is not iterable")

    def __eq__(self, other):
        return isinstance(other, Net) and self.posts == other.posts and self.ties == other.ties

    def __str__(self):
        lines = [f"tie {a} {b}" for a, b in self.ties]
        return "\n".join([f"posts {self.posts}", *lines])

    def without(self, at):
        """The net without a tie; the later ones have a number less."""
        if not is_below(at, len(self.ties)):
            raise NoTie(at)
        return Net(self.posts, self.ties[:at] + self.ties[at + 1:])

    def further(self, ties):
        """The net with further ties."""
        if not _are_ties(ties, self.posts):
            raise InvalidNet("ties")
        return Net(self.posts, self.ties + tuple(ties))

    def across(self, lot):
        """The numbers of all ties between the posts of the lot and others, ascending."""
        return tuple([at for at, (a, b) in enumerate(self.ties) if (a in lot) != (b in lot)])

    def ties_at(self, post):
        """The numbers of all ties at a post, ascending."""
        if not is_below(post, self.posts):
            raise NoPost(post)
        return tuple([at for at, tie in enumerate(self.ties) if post in tie])

    def joined(self, q, ties):
        """The net of this one and q, with a tie from the post a of this one to the post b of q for each (a, b)."""
        if not _are_pairs(ties, self.posts, q.posts):
            raise InvalidNet("ties")
        moved = [(self.posts + a, self.posts + b) for a, b in q.ties]
        between = [(a, self.posts + b) for a, b in ties]
        return Net(self.posts + q.posts, [*self.ties, *moved, *between])
