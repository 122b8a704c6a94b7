import itertools
import random
import unittest

from helpers import (
    MARKS, all_of, chance_machine, chance_machines, check_own, fields_of, names_at, pairs_hold, plain_followed,
    ring_steps, spread_machine, spread_machines,
)
from treesay.folding import classes, folded
from treesay.following import failings, followed
from treesay.machines import Machine
from treesay.meanings import holds
from treesay.sayings import All, Both, Either, Mark, Not, SomeAlways, SomeEver, SomeNext, SomeTill


def every_pair(machine, other):
    return list(itertools.product(all_of(machine), all_of(other)))


def row_machine(many, marks):
    return Machine([[min(stand + 1, many - 1)] for stand in range(many)], marks)


def some_pairs(seed, count, many, degree=2, fair=2):
    """Pairs of machines, some of them alike, spread, or one and the same."""
    machines = chance_machines(seed, count, many, degree, fair)
    spread = spread_machines(seed, count, max(1, many // 2), 2, degree, fair)
    others = chance_machines(seed + 1, count, many, degree, fair)
    pairs = list(zip(machines, others)) + list(zip(machines, spread)) + list(zip(spread, others))
    return pairs + [(machine, machine) for machine in machines]


class FollowedTest(unittest.TestCase):
    def test_each_stand_is_followed_by_itself(self):
        for machine in chance_machines(91, 40, 8):
            told = followed(machine, machine)
            for stand in all_of(machine):
                self.assertIn((stand, stand), told)

    def test_with_itself(self):
        # 1 steps to the marked one alone, 0 to it and round: so 0 does all that 1 does, and 1 not all that 0 does.
        machine = Machine([[0, 2], [2], [2]], [("a", [2])])
        self.assertEqual(followed(machine, machine), [(0, 0), (1, 0), (1, 1), (2, 2)])

    def test_with_another_one(self):
        # A choice between b and c at once, and one a step later: the late choice follows the early one only.
        early = Machine([[1, 2], [3], [4], [3], [4]], [("a", [0]), ("b", [3]), ("c", [4])])
        late = Machine([[1], [2, 3], [2], [3]], [("a", [0]), ("b", [2]), ("c", [3])])
        self.assertEqual(followed(early, late), [(0, 0), (1, 1), (2, 1), (3, 2), (4, 3)])
        self.assertEqual(followed(late, early), [(2, 3), (3, 4)])

    def test_the_first_machine_has_the_stands_that_are_followed(self):
        one = Machine([[0]], [("a", [0])])
        other = Machine([[0, 1], [1], [2]], [("a", [0, 2])])
        self.assertEqual(followed(one, other), [(0, 0), (0, 2)])
        self.assertEqual(followed(other, one), [(2, 0)])

    def test_pairs_are_sorted(self):
        one, other = Machine(ring_steps(2)), Machine(ring_steps(12))
        self.assertEqual(followed(one, other), every_pair(one, other))
        self.assertEqual(followed(other, one), every_pair(other, one))

    def test_none_is_followed(self):
        self.assertEqual(followed(Machine([[0]], [("a", [0])]), Machine([[0]])), [])
        self.assertEqual(followed(Machine([[0]]), Machine([[0]], [("a", [0])])), [])

    def test_marks_in_another_order(self):
        one = Machine([[1], [0]], [("a", [0]), ("b", [1, 0])])
        other = Machine([[1], [0]], [("b", [0, 1]), ("a", [0])])
        self.assertEqual(followed(one, other), [(0, 0), (1, 1)])

    def test_marks_of_other_names(self):
        one, other = Machine([[0]], [("a", [0])]), Machine([[0]], [("b", [0])])
        self.assertEqual(followed(one, other), [])

    def test_a_mark_without_stands_on_one_side_alone(self):
        one = Machine([[1], [0]], [("a", [0]), ("none", [])])
        other = Machine([[1], [0]], [("a", [0])])
        self.assertEqual(followed(one, other), [(0, 0), (1, 1)])
        self.assertEqual(followed(other, one), [(0, 0), (1, 1)])

    def test_a_mark_with_stands_on_one_side_alone(self):
        one = Machine([[1], [1]], [("a", [0]), ("b", [0])])
        other = Machine([[1], [1]], [("a", [0])])
        self.assertEqual(followed(one, other), [(1, 1)])
        self.assertEqual(followed(other, one), [(1, 1)])

    def test_just_the_same_names_and_not_some_more(self):
        machine = Machine([[0], [1]], [("a", [0, 1]), ("b", [1])])
        self.assertEqual(followed(machine, machine), [(0, 0), (1, 1)])

    def test_fair_sets_are_not_looked_at(self):
        steps, marks = [[0, 1], [1]], [("a", [1])]
        plain = Machine(steps, marks)
        for fair in ([[]], [[0]], [[1], [0]], [[0, 1]] * 6):
            fair_too = Machine(steps, marks, fair)
            self.assertEqual(followed(plain, fair_too), followed(plain, plain))
            self.assertEqual(followed(fair_too, plain), followed(plain, plain))
            self.assertEqual(followed(fair_too, fair_too), followed(plain, plain))

    def test_walks_that_never_come_to_an_end_follow_one_another(self):
        # All pairs of which it is so, not only those that a walk's end could tell.
        one, other = Machine(ring_steps(2), [("a", [0])]), Machine(ring_steps(4), [("a", [2, 0])])
        self.assertEqual(followed(one, other), [(0, 0), (0, 2), (1, 1), (1, 3)])

    def test_all_pairs_of_all_lists_that_hold(self):
        found = 0
        for one, other in some_pairs(92, 40, 3):
            told = followed(one, other)
            if one.many() * other.many() <= 12:
                self.assertEqual(told, plain_followed(one, other), (one.steps, other.steps))
                found += 0 < len(told) < one.many() * other.many()
        self.assertGreater(found, 10)

    def test_the_pairs_hold_together(self):
        for one, other in some_pairs(93, 25, 8):
            told = followed(one, other)
            self.assertIs(type(told), list)
            self.assertEqual(told, sorted(set(told)))
            for pair in told:
                self.assertIs(type(pair), tuple)
                self.assertTrue(all(type(stand) is int for stand in pair))
            self.assertTrue(pairs_hold(one, other, told))

    def test_a_folded_machine_and_its_machine_follow_one_another(self):
        for machine in spread_machines(94, 25, 5, 3):
            there, back = followed(machine, folded(machine)), followed(folded(machine), machine)
            for number, stands in enumerate(classes(machine)):
                for stand in stands:
                    self.assertIn((stand, number), there)
                    self.assertIn((number, stand), back)


class Looker:
    """Looks at all failings: together the reasons must prove that no more pairs may be told."""

    def __init__(self, test, machine, other, told):
        self.test = test
        self.machine = machine
        self.other = other
        self.told = told

    def look(self):
        self.test.assertIs(type(self.told), list)
        self.test.assertEqual([len(row) for row in self.told], [self.other.many()] * self.machine.many())
        pairs = followed(self.machine, self.other)
        for row in self.told:
            self.test.assertIs(type(row), list)
        for one, follower in every_pair(self.machine, self.other):
            if (one, follower) in pairs:
                self.test.assertIsNone(self.told[one][follower])
            else:
                self.look_at(one, follower)

    def look_at(self, one, follower):
        failing = self.told[one][follower]
        self.test.assertIs(type(failing), tuple)
        self.test.assertEqual(len(failing), 2)
        self.test.assertIs(type(failing[0]), int)
        self.test.assertGreaterEqual(failing[0], 0)
        self.test.assertIs(type(failing[1]), tuple)
        word, thing = failing[1]
        self.test.assertIn(word, ("mark", "step"))
        if word == "mark":
            self.test.assertIn(thing, names_at(self.machine, one) ^ names_at(self.other, follower))
            return
        self.test.assertIn(thing, self.machine.steps[one])
        for answer in self.other.steps[follower]:
            self.test.assertIsNotNone(self.told[thing][answer])
            self.test.assertLess(self.told[thing][answer][0], failing[0])


class FailingsTest(unittest.TestCase):
    def look(self, machine, other):
        told = failings(machine, other)
        Looker(self, machine, other, told).look()
        return told

    def test_by_a_mark(self):
        one, other = Machine([[0]], [("b", []), ("a", [0])]), Machine([[0], [1]], [("a", [1]), ("c", [1])])
        told = self.look(one, other)
        self.assertEqual([failing[1] for failing in told[0]], [("mark", "a"), ("mark", "c")])
        self.assertEqual(self.look(other, one)[1][0][1], ("mark", "c"))

    def test_by_a_step(self):
        machine = Machine([[0, 2], [2], [2]], [("a", [2])])
        told = self.look(machine, machine)
        self.assertEqual(told[0][1][1], ("step", 0))
        self.assertGreater(told[0][1][0], told[0][2][0])
        self.assertEqual([told[0][0], told[1][0], told[1][1], told[2][2]], [None] * 4)
        self.assertEqual(told[2][0][1], ("mark", "a"))

    def test_by_a_step_of_a_step(self):
        one = Machine([[1], [2], [2]], [("a", [2])])
        other = Machine([[1], [1]])
        told = self.look(one, other)
        self.assertEqual([told[0][0][1], told[1][0][1], told[2][0][1]], [("step", 1), ("step", 2), ("mark", "a")])

    def test_more_answers_than_one(self):
        # The step to 1 has two answers, which fail in rounds that are not alike.
        one = Machine([[1], [2], [3], [3]], [("a", [3])])
        other = Machine([[1, 2], [3], [2], [3]])
        told = self.look(one, other)
        self.assertEqual(told[0][0][1], ("step", 1))

    def test_none_fails(self):
        self.assertEqual(self.look(Machine(ring_steps(3)), Machine([[0]])), [[None]] * 3)
        self.assertEqual(self.look(Machine([[0]]), Machine(ring_steps(3), [("a", [])], [[]])), [[None] * 3])

    def test_a_row_of_sixty_stands_with_a_mark_at_the_last_one(self):
        machine = row_machine(60, [("a", [59])])
        told = self.look(machine, machine)
        self.assertEqual(followed(machine, machine), [(stand, stand) for stand in range(60)])
        self.assertGreaterEqual(told[0][1][0], 58)
        other = row_machine(60, [("a", [])])
        self.assertEqual(followed(machine, other), [])
        self.assertGreaterEqual(self.look(machine, other)[0][0][0], 59)

    def test_against_what_is_asked(self):
        words = set()
        for one, other in some_pairs(95, 30, 8):
            told = self.look(one, other)
            words.update(failing[1][0] for row in told for failing in row if failing is not None)
        self.assertEqual(words, {"mark", "step"})

    def test_large_machines(self):
        chance = random.Random(96)
        machines = [chance_machine(chance, 60, degree, 0) for degree in (1, 3, 60)]
        every = list(range(60))
        machines.append(Machine([list(range(min(60, stand + 2))) for stand in every], [("a", [59])]))
        machines.append(Machine([every for stand in every], [("a", every), ("b", every[::2])]))
        machines.append(Machine([every for stand in every], [(name, every[4:]) for name in "abcdefghijkl"]))
        for one, other in itertools.product(machines, machines):
            self.look(one, other)


def some_saying(chance, deep):
    """A saying of the kinds that are carried from a stand to those that follow it."""
    if deep == 1 or chance.random() < 0.2:
        return chance.choice((All(), Mark("a"), Mark("b"), Mark("c"), Not(Mark("a")), Not(Mark("b")), Not(Mark("c"))))
    if chance.random() < 0.5:
        return chance.choice((SomeNext, SomeAlways, SomeEver))(some_saying(chance, deep - 1))
    kind = chance.choice((Both, Either, SomeTill))
    return kind(some_saying(chance, deep - 1), some_saying(chance, deep - 1))


class CarriedTest(unittest.TestCase):
    def test_sayings_over_some_walks(self):
        chance = random.Random(97)
        carried = 0
        for one, other in some_pairs(98, 15, 6, 3, 0):
            pairs = followed(one, other)
            for number in range(25):
                saying = some_saying(chance, 4)
                here, there = holds(one, saying), holds(other, saying)
                for stand, follower in pairs:
                    if stand in here:
                        self.assertIn(follower, there, saying.words())
                        carried += stand != follower
        self.assertGreater(carried, 1000)

    def test_spread_machines(self):
        chance = random.Random(99)
        for machine in chance_machines(100, 20, 6, 3, 0):
            other = spread_machine(chance, machine, 3)
            pairs = followed(machine, other)
            self.assertEqual({stand for stand, follower in pairs}, set(all_of(machine)))
            for number in range(20):
                saying = some_saying(chance, 5)
                here, there = holds(machine, saying), holds(other, saying)
                self.assertTrue(all(follower in there for stand, follower in pairs if stand in here))

    def test_a_saying_of_another_kind_need_not_be_carried(self):
        machine = Machine([[0, 2], [2], [2]], [("a", [2])])
        self.assertIn((1, 0), followed(machine, machine))
        self.assertEqual(holds(machine, Not(SomeNext(Not(Mark("a"))))), [1, 2])

    def test_marks_of_these_tests_are_those_of_the_machines(self):
        self.assertEqual(MARKS, ("a", "b"))


class HandedInTest(unittest.TestCase):
    def test_it_stays_as_it_is_and_what_is_told_is_the_askers_own(self):
        for one, other in some_pairs(101, 5, 6):
            kept = fields_of(one), fields_of(other)
            check_own(self, lambda: followed(one, other))
            check_own(self, lambda: failings(one, other))
            self.assertEqual((fields_of(one), fields_of(other)), kept)

    def test_machines_in_turn(self):
        plain, marked = Machine([[0]]), Machine([[0]], [("a", [0])])
        for turn in range(3):
            self.assertEqual(followed(plain, plain), [(0, 0)])
            self.assertEqual(followed(plain, marked), [])
            self.assertEqual(failings(marked, marked), [[None]])
            self.assertEqual(failings(marked, plain)[0][0][1], ("mark", "a"))


if __name__ == "__main__":
    unittest.main()
