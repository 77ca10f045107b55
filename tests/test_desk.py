"""Promises [20] and [21]: desks."""

import itertools
import random
import unittest

from levelties.deciding import seen, told
from levelties.desk import Desk
from levelties.errors import InvalidCommand, InvalidNet, InvalidText, NoTie
from levelties.explaining import fewest_wrong
from levelties.live import Live
from tests.helpers import BARBELL, DOUBLED, FULL, LARGEST, NAMED, ONE, PAIR, ROW, SQUARE, any_values, some_nets

OTHERS = ["read 0 1", "drop 0", "between 0 0", "seen", "told", "wrong", "undo"]
NO_SHORT_NUMBERS = ["-1", "+1", "-0", "00", "01", "010", "100", "1.0", "1_0", "a", "0x1", "1e0", "None", "True",
                    ";", "-"]
NO_VALUES = ["+1", "-0", "00", "01", "-01", "1234567", "-1234567", "1.0", "1_0", "a", "0x1", "1e3", "--1", "-", "None",
             "1-", "0-1", ";"]


def command_for(net):
    """The command for a net."""
    return "net " + str(net).replace("\n", " ; ")


def desk_with(net, *commands):
    """A desk with a net that did some more commands."""
    desk = Desk()
    for command in (command_for(net), *commands):
        desk.say(command)
    return desk


def state(desk):
    """All that a desk keeps."""
    live = desk.live
    return None if live is None else (str(live.net), live.known, live.left, len(live))


class DeskTest(unittest.TestCase):

    def refuse(self, desk, command, kind=InvalidCommand, at=None):
        """Check that a command is refused, and changes nothing."""
        before, live = state(desk), desk.live
        with self.assertRaises(kind) as caught:
            desk.say(command)
        self.assertIs(type(caught.exception), kind, command)
        if at is not None:
            self.assertEqual(vars(caught.exception), {"word" if kind is InvalidNet else "at": at})
        self.assertIs(desk.live, live)
        self.assertEqual(state(desk), before)


class ExampleTest(DeskTest):

    def test_square(self):
        desk = Desk()
        self.assertEqual([desk.say("net " + str(SQUARE).replace("\n", " ; ")), desk.say("read 0 2"),
                          desk.say("read 1 -1"), desk.say("between 2 0"), desk.say("read 4 8")],
                         ["5", "agree", "agree", "-1", "fail"])
        self.assertEqual((desk.say("seen"), desk.say("wrong"), desk.say("undo"), desk.live.left,
                          desk.say("between 0 3")), ("1", "open", "undone", (4,), "open"))


class CommandTest(DeskTest):

    def test_new(self):
        desk = Desk()
        self.assertEqual(vars(desk)["live"], None)
        for use in (iter, list, len):
            with self.assertRaises(TypeError):
                use(desk)

    def test_net(self):
        for net in NAMED:
            desk = Desk()
            self.assertEqual(desk.say(command_for(net)), str(len(net)))
            self.assertIs(type(desk.live), Live)
            self.assertEqual((desk.live.net, desk.live.known, len(desk.live)), (net, (), 0))

    def test_another_net(self):
        desk = desk_with(PAIR, "read 0 5")
        first = desk.live
        self.assertEqual(desk.say(command_for(PAIR)), "1")
        self.assertIsNot(desk.live, first)
        self.assertEqual((first.known, desk.live.known, len(desk.live)), (((0, 5),), (), 0))
        self.assertEqual(desk.say("undo"), "nothing")

    def test_read(self):
        desk = desk_with(SQUARE)
        self.assertEqual([desk.say(f"read {at} {value}") for at, value in
                          ((0, 2), (1, -1), (4, 1), (4, 2), (4, 1), (2, 999999), (3, -999999))],
                         ["agree", "agree", "agree", "fail", "agree", "agree", "fail"])
        self.assertEqual(desk.live.known, ((0, 2), (1, -1), (2, 999999), (3, -999999), (4, 1)))
        self.assertEqual(len(desk.live), 7)

    def test_drop(self):
        desk = desk_with(SQUARE, "read 0 2", "read 3 0", "read 4 8")
        self.assertEqual([desk.say("drop 3"), desk.say("drop 4"), desk.say("drop 0")], ["2", "1", "0"])
        self.assertEqual((desk.live.known, len(desk.live)), ((), 6))

    def test_between(self):
        desk = desk_with(SQUARE, "read 0 2", "read 1 -12")
        self.assertEqual([desk.say(f"between {a} {b}") for a, b in ((0, 1), (1, 0), (0, 2), (2, 0), (0, 3), (3, 3))],
                         ["2", "-2", "-10", "10", "open", "0"])
        desk.say("read 4 0")
        self.assertEqual([desk.say("between 0 1"), desk.say("between 3 3")], ["open", "open"])

    def test_seen_and_told(self):
        for net in NAMED + some_nets(20, 81):
            desk = desk_with(net)
            wanted = ["none", "none"] if net.posts == 1 else [str(seen(net)), str(told(net))]
            self.assertEqual([desk.say("seen"), desk.say("told")], wanted)
        self.assertEqual([desk_with(FULL).say("seen"), desk_with(FULL).say("told")], ["2", "1"])

    def test_wrong(self):
        source = random.Random(82)
        for net in NAMED:
            desk = desk_with(net)
            readings = [source.randint(-1, 1) for _ in net.ties]
            for at in source.sample(range(len(net)), len(net)):
                self.assertEqual(desk.say("wrong"), "open")
                desk.say(f"read {at} {readings[at]}")
            self.assertEqual(desk.say("wrong"), str(fewest_wrong(net, readings)))
        self.assertEqual(desk_with(ONE).say("wrong"), "0")
        desk = desk_with(DOUBLED, "read 0 1", "read 1 1", "read 2 0", "read 3 0", "read 4 1")
        self.assertEqual(desk.say("wrong"), "2")

    def test_undo(self):
        desk = desk_with(SQUARE)
        self.assertEqual(desk.say("undo"), "nothing")
        states = [state(desk)]
        commands = ["read 0 2", "read 1 -1", "read 0 3", "drop 1", "read 4 8"]
        for command in commands:
            desk.say(command)
            states.append(state(desk))
        for command in ("between 0 1", "seen", "told", "wrong"):
            desk.say(command)
            self.assertEqual(state(desk), states[-1])
        for wanted in states[-2::-1]:
            self.assertEqual((desk.say("undo"), state(desk)), ("undone", wanted))
        self.assertEqual([desk.say("undo"), desk.say("undo"), state(desk)], ["nothing", "nothing", states[0]])

    def test_live_net_used_beside(self):
        desk = desk_with(SQUARE, "read 0 2")
        desk.live.several([(1, -1), (2, 5)])
        self.assertEqual([desk.say("between 0 3"), desk.say("drop 0"), desk.say("undo"), desk.say("undo")],
                         ["6", "2", "undone", "undone"])
        self.assertEqual(desk.live.known, ((0, 2),))
        self.assertEqual(desk.live.within(lambda live: desk.say("drop 0")), "0")
        self.assertEqual(state(desk)[1], ((0, 2),))

    def test_by_name(self):
        desk = Desk()
        self.assertEqual([desk.say(command=command_for(PAIR)), desk.say(command="seen")], ["1", "0"])

    def test_two_digits(self):
        desk = Desk()
        ties = " ; ".join(f"tie {at} {at + 1}" for at in range(30))
        self.assertEqual(desk.say("net posts 31 ; " + ties), "30")
        self.assertEqual([desk.say("read 29 1"), desk.say("read 10 5"), desk.say("between 30 29"),
                          desk.say("between 10 11"), desk.say("drop 29")], ["agree", "agree", "-1", "5", "1"])
        self.refuse(desk, "between 30 31")
        self.refuse(desk, "read 30 1", NoTie, 30)


class WrongCommandTest(DeskTest):

    def test_any_values(self):
        for value in any_values():
            for desk in (Desk(), desk_with(ONE), desk_with(SQUARE, "read 4 7")):
                self.refuse(desk, value)

    def test_no_net_yet(self):
        for command in OTHERS:
            self.refuse(Desk(), command)
            desk = desk_with(SQUARE, "read 0 2")
            self.assertIs(type(desk.say(command)), str)

    def test_newlines(self):
        for desk in (Desk(), desk_with(SQUARE, "read 0 2")):
            for command in [command_for(PAIR), *OTHERS]:
                for wrong in (command + "\n", "\n" + command, command.replace(" ", "\n"), command + " \n"):
                    if wrong != command:
                        self.refuse(desk, wrong)
            self.refuse(desk, "net " + str(PAIR))
            self.refuse(desk, "net posts 1 ;\n")

    def test_empty_words(self):
        for desk in (Desk(), desk_with(SQUARE, "read 0 2")):
            for command in [command_for(PAIR), *OTHERS]:
                for wrong in (" " + command, command + " ", command.replace(" ", "  "), command.replace(" ", "  ", 1)):
                    if wrong != command:
                        self.refuse(desk, wrong)
            for wrong in ("", " ", "  ", "net ", "net posts 1 ; ", "net  posts 1", "net posts 2 ;  ; tie 0 1"):
                self.refuse(desk, wrong)

    def test_other_words(self):
        desk = desk_with(SQUARE, "read 0 2", "read 1 3")
        for wrong in ("Read 0 1", "READ 0 1", "keep 0 1", "read", "read 0", "read 0 1 2", "drop", "drop 0 0", "between",
                      "between 0", "between 0 1 2", "seen 0", "told 0", "wrong 0", "undo 1", "net", "nets posts 1", "0",
                      "seen told", ";", "several", "left", "known", "say seen", "Undo", "undo undo", "posts 1"):
            self.refuse(desk, wrong)

    def test_no_short_numbers(self):
        desk = desk_with(SQUARE, "read 0 2", "read 1 3")
        for word in NO_SHORT_NUMBERS:
            for wrong in (f"read {word} 1", f"drop {word}", f"between {word} 0", f"between 0 {word}"):
                self.refuse(desk, wrong)

    def test_no_values(self):
        desk = desk_with(SQUARE, "read 0 2")
        for word in NO_VALUES:
            self.refuse(desk, f"read 0 {word}")
            self.refuse(desk, f"read 9 {word}")
        for word in ("0", "7", "-7", "10", "123456", "-123456", "-100000"):
            self.assertEqual(desk.say(f"read 0 {word}"), "agree")
            self.assertEqual(desk.live.known, ((0, int(word)),))

    def test_no_posts(self):
        for net in (ONE, SQUARE, LARGEST):
            desk = desk_with(net)
            for a, b in itertools.product((0, net.posts, net.posts + 1, 99), repeat=2):
                if a or b:
                    self.refuse(desk, f"between {a} {b}")
            self.assertEqual(desk.say(f"between {net.posts - 1} {net.posts - 1}"), "0")

    def test_no_ties(self):
        for net in (ONE, ROW, BARBELL):
            desk = desk_with(net)
            for at in (len(net), len(net) + 1, 99):
                self.refuse(desk, f"read {at} 5", NoTie, at)
                self.refuse(desk, f"drop {at}", NoTie, at)
        desk = desk_with(ROW, "read 1 5")
        self.refuse(desk, "drop 0", NoTie, 0)
        self.assertEqual(desk.say("drop 1"), "0")
        self.refuse(desk, "drop 1", NoTie, 1)

    def test_wrong_texts(self):
        for desk in (Desk(), desk_with(SQUARE, "read 0 2")):
            for text, at in (("posts", 0), (";", 0), ("posts 1 ;", 0), ("; posts 1", 0), ("tie 0 1", 0), ("net", 0),
                             ("posts 01", 0), ("posts 2 ; tie 0 1 2", 1), ("posts 2 ; ; tie 0 1", 1),
                             ("posts 2 ; tie 0 1 ; ; tie 0 1", 2), ("posts 2;tie 0 1", 0), ("posts 2 ; tie 0 -1", 1),
                             ("posts 100", 0), ("posts 2 ; tie 0 1 ; posts 2", 2), ("posts 2 ; tie 0 1 ;", 1)):
                self.refuse(desk, "net " + text, InvalidText, at)

    def test_wrong_nets(self):
        for desk in (Desk(), desk_with(SQUARE, "read 0 2")):
            for text, word in (("posts 0", "posts"), ("posts 2 ; tie 0 0", "ties"), ("posts 2 ; tie 0 2", "ties"),
                               ("posts 2", "joined"), ("posts 3 ; tie 0 1 ; tie 1 0", "joined"),
                               ("posts 0 ; tie 0 0", "posts")):
                self.refuse(desk, "net " + text, InvalidNet, word)


if __name__ == "__main__":
    unittest.main()
