"""What is promised over the whole program: its interface, and what becomes of things handed in and told."""

import copy
import importlib
import inspect
import random
import unittest

from helpers import (
    PlainTeller, all_of, chance_machines, chance_saying, check_own, check_set, fields_of, some_of, spread_machines,
)
from treesay.errors import NoFold, NoMark, NoStand, NoStep, NoText, SayError
from treesay.fairness import alive, core, loop_of, ranks, reach
from treesay.folding import classes, folded, partings
from treesay.following import failings, followed
from treesay.machines import Machine
from treesay.meanings import holds, table
from treesay.rounds import distances, growing, short_walk, shrinking
from treesay.sayer import Sayer
from treesay.texts import machine_text, read_machine, read_saying, saying_text
from treesay.whys import lives, whys

FUNCTIONS = {
    "rounds": {
        "growing": ["machine", "through", "goal"], "shrinking": ["machine", "within"],
        "distances": ["machine", "through", "goal"], "short_walk": ["machine", "through", "goal", "stand"],
    },
    "fairness": {
        "reach": ["machine", "within", "stand"], "core": ["machine", "within"], "alive": ["machine"],
        "loop_of": ["machine", "within", "stand"], "ranks": ["machine", "within"],
    },
    "meanings": {"holds": ["machine", "saying"], "table": ["machine", "saying"]},
    "whys": {"lives": ["machine"], "whys": ["machine", "saying"]},
    "folding": {"classes": ["machine"], "folded": ["machine"], "partings": ["machine"]},
    "following": {"followed": ["machine", "other"], "failings": ["machine", "other"]},
    "texts": {
        "read_machine": ["text"], "machine_text": ["machine"], "read_saying": ["text"], "saying_text": ["saying"],
    },
}
METHODS = {
    Machine: {"many": [], "next_of": ["stand"], "before": ["stand"], "marked": ["name"], "fair_at": ["number"]},
    Sayer: {"say": ["row"]},
}
ROWS = ("alive", "show", "fold", "holds {saying}", "class 0", "at 0 {saying}", "why 0 {saying}", "show", "back", "show")


def fields(machine):
    return [machine.steps, machine.marks, machine.fair]


class InterfaceTest(unittest.TestCase):
    def test_functions(self):
        for module, names in FUNCTIONS.items():
            known = importlib.import_module(f"treesay.{module}")
            for name, arguments in names.items():
                self.assertEqual(list(inspect.signature(getattr(known, name)).parameters), arguments, name)

    def test_classes(self):
        made = inspect.signature(Machine).parameters
        self.assertEqual(list(made), ["steps", "marks", "fair"])
        self.assertEqual([made["marks"].default, made["fair"].default], [None, None])
        self.assertEqual(list(inspect.signature(Sayer).parameters), ["text"])
        for kind, methods in METHODS.items():
            for name, arguments in methods.items():
                self.assertEqual(list(inspect.signature(getattr(kind, name)).parameters), ["self"] + arguments)

    def test_arguments_by_their_names(self):
        machine = read_machine(text="from 0 1\nfrom 1 1\nmark a 1")
        saying = read_saying(text="someever a")
        self.assertEqual(holds(machine=machine, saying=saying), [0, 1])
        self.assertEqual(followed(machine=machine, other=folded(machine=machine)), [(0, 0), (1, 1)])
        self.assertEqual(saying_text(saying=saying), "someever a")
        self.assertEqual(Sayer(text=machine_text(machine=machine)).say(row="fold"), "2")

    def test_refusals_are_value_errors(self):
        for error in (NoStand, NoStep, NoMark, NoText, NoFold):
            self.assertEqual(error.__bases__, (SayError,))
        self.assertEqual(SayError.__bases__, (ValueError,))


class Asker:
    """Everything that can be asked of two machines and a saying."""

    def __init__(self, machine, other, saying, through, goal):
        self.machine = machine
        self.other = other
        self.saying = saying
        self.through = through
        self.goal = goal

    def of_machines(self):
        machine, stands = self.machine, all_of(self.machine)
        return [
            lambda: [machine.next_of(stand) for stand in stands], lambda: [machine.before(stand) for stand in stands],
            lambda: machine.marked("a"), lambda: [machine.fair_at(number) for number in range(len(machine.fair))],
            lambda: growing(machine, self.through, self.goal), lambda: shrinking(machine, self.through),
            lambda: distances(machine, self.through, self.goal),
            lambda: [short_walk(machine, self.through, self.goal, stand) for stand in stands],
            lambda: [reach(machine, stands, stand) for stand in stands], lambda: core(machine, self.through),
            lambda: alive(machine), lambda: [loop_of(machine, stands, stand) for stand in stands],
            lambda: ranks(machine, self.through), lambda: lives(machine), lambda: classes(machine),
            lambda: copy.deepcopy(fields(folded(machine))), lambda: partings(machine),
            lambda: followed(machine, self.other), lambda: failings(machine, self.other),
            lambda: followed(machine, machine), lambda: failings(self.other, machine),
        ]

    def of_sayings(self):
        machine, saying = self.machine, self.saying
        return [
            saying.words, lambda: holds(machine, saying), lambda: table(machine, saying), lambda: whys(machine, saying),
            lambda: [machine_text(machine), saying_text(saying)], lambda: self.said(),
            lambda: copy.deepcopy(fields(read_machine(machine_text(machine)))),
            lambda: read_saying(saying_text(saying)).words(),
        ]

    def said(self):
        sayer = Sayer(machine_text(self.machine))
        return [sayer.say(row.replace("{saying}", saying_text(self.saying))) for row in ROWS]

    def handed_in(self):
        sayings = self.saying.within()
        return [
            fields_of(self.machine), fields_of(self.other), list(self.through), list(self.goal), self.saying.words(),
            sayings, [dict(vars(saying)) for saying in sayings],
        ]


def askers(seed, count):
    chance = random.Random(seed)
    machines = chance_machines(seed, count, 6) + spread_machines(seed, count, 3, 2)
    others = chance_machines(seed + 1, 2 * count, 5)
    return [
        Asker(
            machine, other, chance_saying(chance, 5), some_of(chance, machine.many()), some_of(chance, machine.many()),
        ) for machine, other in zip(machines, others)
    ]


class HandedInTest(unittest.TestCase):
    def test_nothing_that_is_handed_in_is_changed(self):
        for asker in askers(131, 8):
            kept = asker.handed_in()
            for ask in asker.of_machines() + asker.of_sayings():
                ask()
                self.assertEqual(asker.handed_in(), kept)

    def test_what_is_told_is_new_and_the_askers_own(self):
        for asker in askers(132, 8):
            for ask in asker.of_machines() + asker.of_sayings():
                check_own(self, ask)

    def test_nothing_asked_later_changes_what_was_told(self):
        for asker in askers(133, 8):
            asks = asker.of_machines() + asker.of_sayings()
            told = [ask() for ask in asks]
            kept = copy.deepcopy(told)
            for ask in reversed(asks):
                ask()
            self.assertEqual(told, kept)
            self.assertEqual([ask() for ask in asks], kept)

    def test_what_is_done_later_to_a_list_that_was_handed_in_changes_nothing(self):
        steps, marks, fair = [[1, 0], [2], [0, 2]], [("a", [2]), ("b", [0, 1])], [[0, 2]]
        asker = Asker(Machine(steps, marks, fair), Machine([[0]]), read_saying("eachtill b a"), [0, 1], [2])
        asks = asker.of_machines() + asker.of_sayings()
        told = [ask() for ask in asks]
        for each in steps + [stands for name, stands in marks] + fair + [steps, marks, fair]:
            each.clear()
        self.assertEqual([ask() for ask in asks], told)

    def test_sets_are_rising_lists_of_whole_numbers(self):
        for asker in askers(134, 8):
            many = asker.machine.many()
            sets = table(asker.machine, asker.saying) + classes(asker.machine)
            sets += growing(asker.machine, asker.through, asker.goal) + shrinking(asker.machine, asker.through)
            for told in sets + [alive(asker.machine), core(asker.machine, asker.through)]:
                check_set(self, told, many)
            again = folded(asker.machine)
            for told in again.steps + [stands for name, stands in again.marks] + again.fair:
                check_set(self, told, again.many())

    def test_a_text_handed_in_twice(self):
        text = "from 0 1 0\nfrom 1 1\nmark a 1\nfair 1"
        one, other = read_machine(text), read_machine(text)
        one.steps[0].clear()
        self.assertEqual(fields(other), [[[1, 0], [1]], [("a", [1])], [[1]]])
        self.assertEqual(fields(read_machine(text)), fields(other))

    def test_two_machines_asked_in_turn(self):
        pairs = [(asker, asker.of_machines() + asker.of_sayings()) for asker in askers(135, 4)]
        alone = [[ask() for ask in asks] for asker, asks in pairs]
        most = max(len(asks) for asker, asks in pairs)
        turns = [[asks[place]() for asker, asks in pairs] for place in range(most)]
        self.assertEqual([list(told) for told in zip(*turns)], alone)


class PromiseTest(unittest.TestCase):
    def test_the_folded_machine_says_the_same_of_each_class_by_the_plain_meaning(self):
        chance = random.Random(136)
        for machine in spread_machines(137, 12, 2, 2) + chance_machines(138, 12, 3, 2):
            if machine.many() <= 4:
                plain, again = PlainTeller(machine, 9), folded(machine)
                for number in range(12):
                    saying = chance_saying(chance, 4)
                    there = holds(again, saying)
                    stands = [stand for each, own in enumerate(classes(machine)) if each in there for stand in own]
                    self.assertEqual(sorted(stands), plain.holds(saying), saying.words())

    def test_each_stand_comes_with_a_truth_and_a_reason(self):
        for asker in askers(139, 10):
            told = whys(asker.machine, asker.saying)
            self.assertEqual([stand for stand, why in enumerate(told) if why[0]], holds(asker.machine, asker.saying))
            self.assertEqual(len(told), asker.machine.many())
            self.assertTrue(all(type(truth) is bool and type(reason) is tuple for truth, reason in told))


if __name__ == "__main__":
    unittest.main()
