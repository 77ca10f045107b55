"""Desks, which do commands about a live net."""

from levelties.deciding import seen, told
from levelties.errors import InvalidCommand
from levelties.explaining import fewest_wrong
from levelties.live import Live
from levelties.nets import Net, is_short_number


def _text(found, otherwise):
    """The text of what was found, or another one if this is None."""
    return otherwise if found is None else str(found)


def _read(live, at, value):
    """Keep a reading; whether the readings so far agree."""
    return "agree" if live.keep(at, value) else "fail"


def _drop(live, at):
    """Forget a reading; how many are left."""
    live.drop(at)
    return str(len(live.known))


def _between(live, a, b):
    """How much b is higher than a."""
    return _text(live.between(a, b), "open")


def _seen(live):
    """How many wrong readings are always seen."""
    return _text(seen(live.net), "none")


def _told(live):
    """How many wrong readings can always be told."""
    return _text(told(live.net), "none")


def _wrong(live):
    """The fewest readings that can be wrong."""
    if len(live.known) < len(live.net):
        return "open"
    return str(fewest_wrong(live.net, [reading for _, reading in live.known]))


def _undo(live):
    """Take back the last deed."""
    return "undone" if live.undo() else "nothing"


ACTIONS = {"read": _read, "drop": _drop, "between": _between, "seen": _seen, "told": _told, "wrong": _wrong,
           "undo": _undo}
# The kinds of the words behind the first one.
FORMS = {"read": ("tie", "value"), "drop": ("tie",), "between": ("post", "post"), "seen": (), "told": (), "wrong": (),
         "undo": ()}


class Desk:
    """Does commands, with a live net or none yet."""

    def __init__(self):
        self.live = None

    def say(self, command):
        """Do a command; its result as a text."""
        first, *rest = _words(command)
        if first == "net" and rest:
            self.live = Live(Net.read(" ".join(rest).replace(" ; ", "\n")))
            return str(len(self.live.net))
        if self.live is None or first not in FORMS or not _fits(rest, FORMS[first], self.live.net.posts):
            raise InvalidCommand()
        action = ACTIONS[first]
        numbers = [int(word) for word in rest]
        return action(self.live, *numbers)


def _words(command):
    """The words of any value that is a command."""
    if not isinstance(command, str) or "\n" in command:
        raise InvalidCommand()
    words = command.split(" ")
    if "" in words:
        raise InvalidCommand()
    return words


def _fits(words, kinds, posts):
    """Whether there is a word of each kind, and no other."""
    return len(words) == len(kinds) and all([_is_of_kind(word, kind, posts) for word, kind in zip(words, kinds)])


def _is_of_kind(word, kind, posts):
    """Whether a word is a number of a tie, as it may be written, a post, or the value of a reading."""
    if kind == "value":
        digits = word[1:] if word.startswith("-") else word
        return is_short_number(digits, 6) and word != "-0"
    return is_short_number(word) and (kind == "tie" or int(word) < posts)
