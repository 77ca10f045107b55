"""Promises [1] to [3]: kinds of values, how functions are called, limits."""

import copy
import importlib
import inspect
import itertools
import unittest

from levelties.comparing import alike, best_ties, no_worse, weaker, worth
from levelties.deciding import alike_errors, classes, hidden, least_cut, least_cuts, needed, seen, told
from levelties.desk import Desk
from levelties.errors import (InvalidCommand, InvalidGroups, InvalidNet, InvalidReadings, InvalidText, NoPost, NoTie,
                              Refused)
from levelties.explaining import differences, fewest_wrong, is_set, sets, span, surely
from levelties.groups import seen_groups, told_groups, weak_lot
from levelties.live import Live
from levelties.mending import bound, further
from levelties.nets import Net
from levelties.papers import cut_between, paper, paper_holds, ways
from levelties.readings import agree, failing, heights, read, rings
from levelties.sinking import amounts, sinks
from tests.helpers import (BARBELL, DOUBLED, FULL, LARGEST, NAMED, ONE, PAIR, ROW, SQUARE, TRIPLE, all_tuples,
                           any_values)

# The interface: functions by module, with their parameters.
FUNCTIONS = {
    "readings": {"read": "net, heights", "agree": "net, readings", "heights": "net, readings, first=0",
                 "rings": "net", "failing": "net, readings"},
    "deciding": {"least_cut": "net", "least_cuts": "net", "seen": "net", "told": "net", "hidden": "net, k",
                 "alike_errors": "net, k", "needed": "net", "classes": "net, k"},
    "papers": {"ways": "net, a, b", "cut_between": "net, a, b", "paper": "net, k", "paper_holds": "net, k, value"},
    "explaining": {"is_set": "net, readings, value", "sets": "net, readings", "fewest_wrong": "net, readings",
                   "surely": "net, readings, k", "differences": "net, readings, k, a, b",
                   "span": "net, readings, off, a, b"},
    "groups": {"seen_groups": "net, groups", "told_groups": "net, groups", "weak_lot": "net, groups"},
    "sinking": {"amounts": "net, readings, post, at", "sinks": "net, readings"},
    "mending": {"further": "net, k", "bound": "net, k"},
    "comparing": {"no_worse": "p, q", "weaker": "p, q", "alike": "p, q", "worth": "net, a, b", "best_ties": "net"},
}
METHODS = {
    Net: {"without": "self, at", "further": "self, ties", "across": "self, lot", "ties_at": "self, post",
          "joined": "self, q, ties", "__init__": "self, posts, ties=()"},
    Live: {"keep": "self, at, value", "drop": "self, at", "several": "self, pairs", "between": "self, a, b",
           "undo": "self", "within": "self, work", "__init__": "self, net", "__len__": "self"},
    Desk: {"say": "self, command", "__init__": "self"},
}
ERRORS = ["LevelError", "InvalidNet", "InvalidText", "InvalidReadings", "InvalidGroups", "InvalidCommand", "Refused",
          "NoTie", "NoPost"]

# Calls with all parameters by name, the sequences among them as lists.
CALLS = [
    (Net, {"posts": 4, "ties": [(0, 1), (1, 2), (2, 3), (3, 0), (0, 2)]}),
    (Net.read, {"text": str(SQUARE)}),
    (SQUARE.without, {"at": 2}),
    (SQUARE.further, {"ties": [(1, 3), (3, 0)]}),
    (SQUARE.across, {"lot": [2, 0]}),
    (SQUARE.ties_at, {"post": 2}),
    (SQUARE.joined, {"q": FULL, "ties": [(0, 1), (3, 3)]}),
    (read, {"net": SQUARE, "heights": [3, 5, 4, 9]}),
    (agree, {"net": SQUARE, "readings": [2, -1, 5, -6, 8]}),
    (agree, {"net": SQUARE, "readings": [2, -1, 5, -6, 1]}),
    (heights, {"net": SQUARE, "readings": [2, -1, 5, -6, 1], "first": 3}),
    (heights, {"net": SQUARE, "readings": [2, -1, 5, -6, 8], "first": 3}),
    (rings, {"net": SQUARE}),
    (failing, {"net": SQUARE, "readings": [2, -1, 5, -6, 8]}),
    (least_cut, {"net": SQUARE}),
    (least_cuts, {"net": SQUARE}),
    (seen, {"net": SQUARE}),
    (told, {"net": SQUARE}),
    (hidden, {"net": SQUARE, "k": 2}),
    (alike_errors, {"net": SQUARE, "k": 1}),
    (needed, {"net": SQUARE}),
    (classes, {"net": SQUARE, "k": 1}),
    (ways, {"net": SQUARE, "a": 0, "b": 2}),
    (cut_between, {"net": SQUARE, "a": 1, "b": 2}),
    (paper, {"net": SQUARE, "k": 1}),
    (paper, {"net": SQUARE, "k": 2}),
    (paper_holds, {"net": SQUARE, "k": 0, "value": (((0,),), ((4,),), ((3,),))}),
    (paper_holds, {"net": SQUARE, "k": 1, "value": (((0,),), ((4,),), ((3,),))}),
    (is_set, {"net": SQUARE, "readings": [2, -1, 5, -6, 8], "value": (0, 2)}),
    (is_set, {"net": SQUARE, "readings": [2, -1, 5, -6, 8], "value": (0, 1)}),
    (sets, {"net": SQUARE, "readings": [2, -1, 5, -6, 8]}),
    (fewest_wrong, {"net": SQUARE, "readings": [2, -1, 5, -6, 8]}),
    (surely, {"net": SQUARE, "readings": [2, -1, 5, -6, 8], "k": 1}),
    (differences, {"net": SQUARE, "readings": [2, -1, 5, -6, 8], "k": 2, "a": 0, "b": 2}),
    (differences, {"net": SQUARE, "readings": [2, -1, 5, -6, 8], "k": 3, "a": 0, "b": 1}),
    (span, {"net": SQUARE, "readings": [2, -1, 5, -6, 8], "off": 3, "a": 0, "b": 2}),
    (seen_groups, {"net": FULL, "groups": [0, 0, 1, 1, 2, 2]}),
    (told_groups, {"net": FULL, "groups": [5, 4, 3, 2, 1, 0]}),
    (weak_lot, {"net": FULL, "groups": [0, 0, 1, 1, 2, 2]}),
    (amounts, {"net": SQUARE, "readings": [2, -1, 5, -3, 1], "post": 3, "at": 3}),
    (sinks, {"net": SQUARE, "readings": [2, -1, 5, -3, 1]}),
    (further, {"net": ROW, "k": 2}),
    (bound, {"net": ROW, "k": 2}),
    (no_worse, {"p": FULL, "q": SQUARE}),
    (no_worse, {"p": SQUARE, "q": FULL}),
    (weaker, {"p": SQUARE, "q": FULL}),
    (alike, {"p": SQUARE, "q": SQUARE}),
    (worth, {"net": SQUARE, "a": 3, "b": 1}),
    (best_ties, {"net": SQUARE}),
]

# Calls of methods of a live net of SQUARE with LIVE_READINGS, as CALLS.
LIVE_READINGS = [(0, 2), (1, -1), (2, 5)]
LIVE_CALLS = [
    ("keep", {"at": 3, "value": -6}),
    ("keep", {"at": 4, "value": 8}),
    ("drop", {"at": 1}),
    ("several", {"pairs": [(4, 8), (3, -6), (4, 1)]}),
    ("several", {"pairs": []}),
    ("between", {"a": 3, "b": 1}),
    ("undo", {}),
    ("within", {"work": lambda live: (live.undo(), live.keep(4, 3), live.known)}),
]
LIVE_FAULTS = [
    ("keep", {"at": 5, "value": None}, NoTie, "at", 5),
    ("keep", {"at": 4, "value": None}, InvalidReadings, "at", 4),
    ("drop", {"at": 3}, NoTie, "at", 3),
    ("several", {"pairs": [(0, 1), (1, 1), (0, True), (9, 9)]}, Refused, "at", 2),
    ("several", {"pairs": None}, Refused, "at", 0),
    ("within", {"work": lambda live: (live.drop(0), live.keep(9, 9))}, NoTie, "at", 9),
]

# Calls that raise, in the order in which the document lists the errors of each.
FAULTS = [
    (Net, {"posts": None, "ties": 3}, InvalidNet, "word", "posts"),
    (Net, {"posts": 3, "ties": [(0, 0)]}, InvalidNet, "word", "ties"),
    (Net, {"posts": 3, "ties": [(0, 1)]}, InvalidNet, "word", "joined"),
    (Net.read, {"text": "posts 0\ntie 0 0\ntie"}, InvalidText, "at", 2),
    (Net.read, {"text": "posts 0\ntie 0 0"}, InvalidNet, "word", "posts"),
    (ROW.without, {"at": 3}, NoTie, "at", 3),
    (ROW.without, {"at": 1}, InvalidNet, "word", "joined"),
    (ROW.further, {"ties": [(0, 4)]}, InvalidNet, "word", "ties"),
    (ROW.ties_at, {"post": 4}, NoPost, "at", 4),
    (ROW.joined, {"q": PAIR, "ties": [(0, 2)]}, InvalidNet, "word", "ties"),
    (ROW.joined, {"q": PAIR, "ties": []}, InvalidNet, "word", "joined"),
    (agree, {"net": ROW, "readings": (1, None)}, InvalidReadings, "at", 0),
    (heights, {"net": ROW, "readings": (1, 2, None), "first": 3}, InvalidReadings, "at", 2),
    (failing, {"net": ROW, "readings": (1, False, None)}, InvalidReadings, "at", 1),
    (is_set, {"net": ROW, "readings": (1, 2, None), "value": None}, InvalidReadings, "at", 2),
    (sets, {"net": ROW, "readings": None}, InvalidReadings, "at", 0),
    (fewest_wrong, {"net": ROW, "readings": (1, "2", None)}, InvalidReadings, "at", 1),
    (surely, {"net": ROW, "readings": [1, 2], "k": 1}, InvalidReadings, "at", 0),
    (differences, {"net": ROW, "readings": (1, True, 2), "k": 1, "a": 0, "b": 0}, InvalidReadings, "at", 1),
    (span, {"net": ROW, "readings": "123", "off": 1, "a": 0, "b": 1}, InvalidReadings, "at", 0),
    (seen_groups, {"net": ROW, "groups": (0, -1, None)}, InvalidGroups, "at", 1),
    (told_groups, {"net": ROW, "groups": [0, 1, True]}, InvalidGroups, "at", 2),
    (weak_lot, {"net": ONE, "groups": (0,)}, InvalidGroups, "at", 0),
    (amounts, {"net": ROW, "readings": (None, 1, 2), "post": 1, "at": 0}, InvalidReadings, "at", 0),
    (sinks, {"net": ROW, "readings": ((1,), 1, 2)}, InvalidReadings, "at", 0),
]


def live_square():
    """A live net of SQUARE with some readings."""
    live = Live(SQUARE)
    live.several(LIVE_READINGS)
    return live


def told_by(live):
    """All that a live net tells."""
    return live.known, live.left, len(live), [live.between(a, b) for a in range(4) for b in range(4)]


def frozen(arguments):
    """The same arguments with tuples for lists."""
    return {name: tuple(value) if isinstance(value, list) else value for name, value in arguments.items()}


class InterfaceTest(unittest.TestCase):

    def test_functions(self):
        for name, functions in FUNCTIONS.items():
            module = importlib.import_module(f"levelties.{name}")
            for word, parameters in functions.items():
                function = getattr(module, word)
                self.assertEqual(function.__module__, f"levelties.{name}")
                self.assertEqual(str(inspect.signature(function)), f"({parameters})")

    def test_classes(self):
        self.assertEqual([kind.__module__ for kind in METHODS], ["levelties.nets", "levelties.live", "levelties.desk"])
        for kind, methods in METHODS.items():
            for name, parameters in methods.items():
                self.assertEqual(str(inspect.signature(vars(kind)[name])), f"({parameters})")

    def test_attributes(self):
        for thing, names in ((Net(1), ("posts", "ties")), (Live(ROW), ("net", "known", "left")), (Desk(), ("live",))):
            for name in names:
                self.assertIn(name, vars(thing))

    def test_net(self):
        self.assertIsInstance(vars(Net)["read"], classmethod)
        self.assertEqual(str(inspect.signature(Net.read)), "(text)")
        for name in ("__len__", "__eq__", "__str__", "__getitem__"):
            self.assertIn(name, vars(Net))

    def test_errors(self):
        module = importlib.import_module("levelties.errors")
        for name in ERRORS:
            self.assertEqual(getattr(module, name).__module__, "levelties.errors")

    def test_package_is_empty(self):
        package = importlib.import_module("levelties")
        self.assertTrue(package.__doc__)
        with open(package.__file__, encoding="utf-8") as source:
            self.assertEqual(source.read().strip(), f'"""{package.__doc__}"""')


class CallTest(unittest.TestCase):

    def test_by_position_and_by_name_in_any_order(self):
        for function, arguments in CALLS:
            wanted = function(*arguments.values())
            for order in itertools.permutations(arguments):
                self.assertEqual(function(**{name: arguments[name] for name in order}), wanted)

    def test_errors_come_in_order(self):
        for function, arguments, kind, name, kept in FAULTS:
            for order in itertools.permutations(arguments):
                with self.assertRaises(kind) as caught:
                    function(**{name: arguments[name] for name in order})
                self.assertIs(type(caught.exception), kind)
                self.assertEqual(getattr(caught.exception, name), kept)

    def test_lists_and_tuples(self):
        for function, arguments in CALLS:
            self.assertEqual(function(**frozen(arguments)), function(**arguments))

    def test_arguments_are_not_changed(self):
        for function, arguments in CALLS:
            texts = {name: str(value) for name, value in arguments.items()}
            before = {name: copy.deepcopy(value) for name, value in arguments.items() if isinstance(value, list)}
            function(**arguments)
            self.assertEqual({name: str(value) for name, value in arguments.items()}, texts)
            self.assertEqual({name: arguments[name] for name in before}, before)

    def test_refused_arguments_are_not_changed(self):
        for value in any_values():
            text = repr(value)
            for use in (lambda: Net(3, value), lambda: ROW.further(value), lambda: ROW.joined(ROW, value),
                        lambda: agree(ROW, value), lambda: failing(ROW, value), lambda: heights(ROW, value),
                        lambda: sets(ROW, value), lambda: span(ROW, value, 1, 0, 1), lambda: sinks(ROW, value),
                        lambda: seen_groups(ROW, value), lambda: weak_lot(ROW, value),
                        lambda: Live(ROW).keep(value, value), lambda: Live(ROW).keep(0, value),
                        lambda: Live(ROW).drop(value), lambda: Live(ROW).several(value),
                        lambda: Live(ROW).several([value]), lambda: Desk().say(value),
                        lambda: paper_holds(ROW, 0, value), lambda: is_set(ROW, (1, 2, 3), value)):
                try:
                    use()
                except (InvalidNet, InvalidReadings, InvalidGroups, InvalidCommand, Refused, NoTie):
                    pass
            self.assertEqual(repr(value), text)
        self.assertEqual(str(ROW), "posts 4\ntie 0 1\ntie 1 2\ntie 2 3")

    def test_later_changes_have_no_effect(self):
        for function, arguments in CALLS:
            passed = {name: list(value) if isinstance(value, list) else value for name, value in arguments.items()}
            result = function(**passed)
            text = str(result)
            for value in passed.values():
                if isinstance(value, list):
                    value.reverse()
                    value.append((9, 9))
                    del value[0]
            self.assertEqual(str(result), text)
            self.assertEqual(function(**arguments), result)

    def test_same_call_again(self):
        first = [function(**arguments) for function, arguments in CALLS]
        for function, arguments, kind, _, _ in FAULTS:
            with self.assertRaises(kind):
                function(**arguments)
        backwards = [function(**arguments) for function, arguments in reversed(CALLS)]
        again = [function(**arguments) for function, arguments in CALLS]
        self.assertEqual(again, first)
        self.assertEqual(backwards, first[::-1])

    def test_live_nets_and_desks_in_between(self):
        first = [function(**arguments) for function, arguments in CALLS]
        live, desk = live_square(), Desk()
        desk.say("net posts 4 ; tie 0 1 ; tie 1 2 ; tie 2 3 ; tie 3 0 ; tie 0 2")
        before = told_by(live)
        for at, (function, arguments) in enumerate(CALLS):
            self.assertEqual(desk.say(f"read {at % 5} {at}"), desk.say(f"read {at % 5} {at}"))
            self.assertEqual(function(**arguments), first[at])
            self.assertEqual(told_by(live), before)
        for command, text in (("seen", "1"), ("told", "0"), ("wrong", "2"), ("between 0 1", "open")):
            self.assertEqual([desk.say(command), desk.say(command)], [text, text])

    def test_equal_nets_get_equal_results(self):
        for net in NAMED:
            other = Net.read(str(net))
            for function in (rings, least_cut, least_cuts, seen, told, needed, best_ties):
                self.assertEqual(function(other), function(net))
            for k in range(4):
                self.assertEqual(classes(other, k), classes(net, k))
                self.assertEqual(hidden(other, k), hidden(net, k))
                self.assertEqual(alike_errors(other, k), alike_errors(net, k))


class LiveCallTest(unittest.TestCase):

    def test_by_position_and_by_name_in_any_order(self):
        for name, arguments in LIVE_CALLS:
            live = live_square()
            wanted = (getattr(live, name)(*arguments.values()), told_by(live))
            for order in itertools.permutations(arguments):
                live = live_square()
                result = getattr(live, name)(**{word: arguments[word] for word in order})
                self.assertEqual((result, told_by(live)), wanted, name)
                self.assertTrue(all_tuples(result))
            live = live_square()
            self.assertEqual((getattr(live, name)(**frozen(arguments)), told_by(live)), wanted)
        self.assertEqual(told_by(Live(net=SQUARE)), told_by(Live(SQUARE)))

    def test_errors(self):
        for name, arguments, kind, word, kept in LIVE_FAULTS:
            live = live_square()
            before = told_by(live)
            for order in itertools.permutations(arguments):
                with self.assertRaises(kind) as caught:
                    getattr(live, name)(**{word: arguments[word] for word in order})
                self.assertIs(type(caught.exception), kind)
                self.assertEqual(getattr(caught.exception, word), kept)
                self.assertEqual(told_by(live), before)

    def test_arguments_are_not_changed(self):
        for name, arguments in LIVE_CALLS:
            before = copy.deepcopy(arguments)
            getattr(live_square(), name)(**arguments)
            self.assertEqual(arguments, before)
        self.assertEqual(SQUARE, Net(4, [(0, 1), (1, 2), (2, 3), (3, 0), (0, 2)]))

    def test_no_result_is_none(self):
        self.assertIsNone(live_square().drop(0))

    def test_whether_is_a_bool(self):
        live = live_square()
        for result in (live.keep(3, -6), live.keep(4, 8), *live.several([(4, 1), (4, 2)]), live.undo(),
                       Live(ONE).undo()):
            self.assertIs(type(result), bool)


class ResultTest(unittest.TestCase):

    def test_sequences_are_tuples(self):
        for function, arguments in CALLS:
            result = function(**arguments)
            self.assertTrue(all_tuples(result.ties if isinstance(result, Net) else result), function)

    def test_whether_is_a_bool(self):
        self.assertIs(agree(ONE, []), True)
        self.assertIs(agree(PAIR, [3]), True)
        self.assertIs(agree(TRIPLE, [3, 3, 3]), False)
        self.assertIs(SQUARE == FULL, False)
        self.assertIs(SQUARE == Net(4, SQUARE.ties), True)
        for net in NAMED:
            self.assertEqual((no_worse(net, net), alike(net, net)), (True, True))
            self.assertIs(type(no_worse(net, net)), bool)
            self.assertIs(type(alike(net, net)), bool)
        for value in any_values():
            self.assertIn(paper_holds(ONE, 0, value), (True, False))
            self.assertIs(type(paper_holds(ONE, 0, value)), bool)
            self.assertIs(type(is_set(ROW, (1, 2, 3), value)), bool)

    def test_kinds_of_numbers(self):
        for net in NAMED[1:]:
            groups = list(range(len(net)))
            for number in (least_cut(net), seen(net), told(net), len(net), *heights(net, [0] * len(net)),
                           fewest_wrong(net, groups), seen_groups(net, groups), told_groups(net, groups),
                           *span(net, groups, 99, 0, 1), *worth(net, 0, 1)):
                self.assertIs(type(number), int)


class LimitTest(unittest.TestCase):

    def test_largest_net(self):
        self.assertEqual((LARGEST.posts, len(LARGEST)), (6, 10))
        self.assertEqual((least_cut(LARGEST), seen(LARGEST), told(LARGEST)), (3, 2, 1))
        self.assertTrue(agree(LARGEST, read(LARGEST, [999999999, -999999999, 0, 5, 999999999, -1])))

    def test_greatest_k(self):
        for net in (BARBELL, LARGEST, DOUBLED):
            readings_so_far = [999999999 - 7 * at * at for at in range(len(net))]
            for k in (10, 11, 100):
                self.assertEqual(surely(net, readings_so_far, k), ((), ()))
                self.assertIsNone(differences(net, readings_so_far, k, 0, 1))
                self.assertIsNone(paper(net, k))
                self.assertIsNotNone(hidden(net, k))
                self.assertIsNotNone(alike_errors(net, k))
                self.assertEqual(classes(net, k), tuple((post,) for post in range(net.posts)))

    def test_long_integers(self):
        right = (999999999, -1999999998)
        self.assertEqual(heights(Net(3, [(0, 1), (1, 2)]), right, 999999999), (999999999, 1999999998, 0))
        self.assertEqual(failing(TRIPLE, (999999999, -999999999, 999999998)), ((0, 2), (1, 2)))

    def test_longest_text(self):
        text = "\n".join(["posts 2"] + ["tie 0 1"] * 124)
        self.assertEqual(len(text), 999)
        self.assertEqual(seen(Net.read(text)), 123)

    def test_what_is_returned_may_be_passed_on(self):
        readings_so_far = read(SQUARE, [999999999, -999999999, 999999999, -999999999])
        for _ in range(7):
            first, second = alike_errors(SQUARE, 1)
            found = [x + y - z for x, y, z in zip(readings_so_far, hidden(SQUARE, 2), first)]
            self.assertEqual(agree(SQUARE, found), agree(SQUARE, [-error for error in first]))
            readings_so_far = read(SQUARE, heights(SQUARE, read(SQUARE, heights(SQUARE, readings_so_far, 10 ** 9))))
            readings_so_far = tuple(2 * reading for reading in readings_so_far)
            self.assertTrue(agree(SQUARE, readings_so_far))
            self.assertEqual(failing(SQUARE, [x + y for x, y in zip(readings_so_far, first)]) == (),
                             failing(SQUARE, [x + y for x, y in zip(readings_so_far, second)]) == ())
        net = PAIR
        for _ in range(7):
            net = net.joined(net, [net[0]])
        self.assertEqual((net.posts, len(rings(net)), seen(net)), (256, 0, 0))
        self.assertEqual(net.ties_at(net.posts - 1), (net.across([255])))
        for lot in least_cuts(SQUARE):
            self.assertEqual(len(SQUARE.across(lot)), 2)


if __name__ == "__main__":
    unittest.main()
