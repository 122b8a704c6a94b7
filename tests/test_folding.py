import random
import unittest

from helpers import (
    all_of, chance_machine, chance_machines, chance_saying, check_own, check_set, fairs_at, fields_of, names_at,
    plain_classes, ring_steps, split_holds, spread_machine, spread_machines,
)
from treesay.folding import classes, folded, partings
from treesay.machines import Machine
from treesay.meanings import holds
from treesay.sayings import EachEver, Mark, SomeAlways, SomeNext


def row_machine(many, marks=None, fair=None):
    """Each stand steps to the next one, the last one to itself."""
    return Machine([[min(stand + 1, many - 1)] for stand in range(many)], marks, fair)


def alone(many):
    return [[stand] for stand in range(many)]


def some_machines(seed):
    return chance_machines(seed, 60, 7) + spread_machines(seed, 60, 5, 4)


class ClassesTest(unittest.TestCase):
    def test_by_marks(self):
        every = [0, 1, 2]
        self.assertEqual(classes(Machine([every, every, every], [("a", [1])])), [[0, 2], [1]])
        self.assertEqual(classes(Machine([every, every, every], [("a", [0, 1]), ("b", [1, 2])])), alone(3))
        self.assertEqual(classes(Machine([every, every, every], [("a", [2, 0]), ("b", [0, 2])])), [[0, 2], [1]])

    def test_by_the_name_of_a_mark_and_not_by_how_many_there_are(self):
        self.assertEqual(classes(Machine([[0], [1]], [("a", [0]), ("b", [1])])), [[0], [1]])

    def test_by_fair_sets(self):
        every = [0, 1, 2]
        self.assertEqual(classes(Machine([every, every, every], [], [[2]])), [[0, 1], [2]])
        self.assertEqual(classes(Machine([every, every, every], None, [[0, 2], [2, 1]])), alone(3))
        self.assertEqual(classes(Machine([every, every, every], None, [[0, 2], [2, 0]])), [[0, 2], [1]])

    def test_by_the_number_of_a_fair_set_and_not_by_how_many_there_are(self):
        self.assertEqual(classes(Machine([[0, 1], [0, 1]], [], [[0], [1]])), [[0], [1]])

    def test_by_steps(self):
        # Stands 0 and 1 have no mark; 1 alone steps to the marked one.
        self.assertEqual(classes(Machine([[0], [2], [2]], [("a", [2])])), alone(3))
        self.assertEqual(classes(Machine([[0, 2], [2], [2]], [("a", [2])])), alone(3))
        self.assertEqual(classes(Machine([[2], [2], [2]], [("a", [2])])), [[0, 1], [2]])

    def test_by_a_step_that_just_the_other_one_has(self):
        self.assertEqual(classes(Machine([[2], [2, 3], [2], [3]], [("a", [2]), ("b", [3])])), alone(4))
        self.assertEqual(classes(Machine([[2, 3], [2], [2], [3]], [("a", [2]), ("b", [3])])), alone(4))

    def test_by_steps_of_steps(self):
        # 0 and 1 step to 2 and 3, which part by their steps alone; from 1 on no mark comes at all.
        machine = Machine([[2], [3], [4], [5], [4], [5]], [("a", [4])])
        self.assertEqual(classes(machine), [[0], [1, 3, 5], [2], [4]])
        self.assertEqual(classes(Machine([[2], [3], [4], [4], [4]], [("a", [4])])), [[0, 1], [2, 3], [4]])

    def test_stands_that_wait_for_one_another(self):
        # The fewest classes: 0 and 1 may be alike, though it is only they that step to one another.
        self.assertEqual(classes(Machine([[1], [0]])), [[0, 1]])
        self.assertEqual(classes(Machine([[1], [0], [3], [2]], [("a", [0, 2])])), [[0, 2], [1, 3]])

    def test_how_many_steps_there_are_to_a_class_does_not_part(self):
        machine = Machine([[2], [2, 3], [2], [3, 2]], [("a", [3, 2])])
        self.assertEqual(classes(machine), [[0, 1], [2, 3]])

    def test_in_the_order_of_their_least_stands(self):
        machine = Machine([[0], [1], [2], [3], [4]], [("z", [0, 4]), ("a", [1]), ("m", [2, 3])])
        self.assertEqual(classes(machine), [[0, 4], [1], [2, 3]])
        machine = Machine([[0], [1], [2], [3], [4]], [("a", [4, 1]), ("b", [3])])
        self.assertEqual(classes(machine), [[0, 2], [1, 4], [3]])

    def test_all_stands_in_one_class(self):
        self.assertEqual(classes(Machine([[0]])), [[0]])
        self.assertEqual(classes(Machine(ring_steps(60))), [list(range(60))])
        every = list(range(7))
        machine = Machine(ring_steps(7), [("a", every[::-1]), ("b", []), ("c", every)], [every, [], every[::-1]])
        self.assertEqual(classes(machine), [every])
        self.assertEqual(classes(row_machine(60)), [list(range(60))])

    def test_none_fold(self):
        self.assertEqual(classes(Machine(ring_steps(6), [("a", [3])])), alone(6))
        self.assertEqual(classes(Machine(ring_steps(60), None, [[17]])), alone(60))

    def test_a_row_of_sixty_stands_with_a_mark_at_the_last_one(self):
        self.assertEqual(classes(row_machine(60, [("a", [59])])), alone(60))
        self.assertEqual(classes(row_machine(60, [("a", [0])])), [[0], list(range(1, 60))])

    def test_a_mark_or_a_fair_set_without_stands_parts_nothing(self):
        self.assertEqual(classes(Machine([[1], [0]], [("a", []), ("b", [1, 0])], [[], [0, 1]])), [[0, 1]])

    def test_the_fewest_of_all_ways_to_part_the_stands(self):
        folding = 0
        for machine in chance_machines(71, 60, 6) + spread_machines(72, 60, 3, 2):
            told = classes(machine)
            self.assertEqual(told, plain_classes(machine), machine.steps)
            folding += len(told) < machine.many()
        self.assertGreater(folding, 40)

    def test_each_stand_in_one_class_and_the_classes_as_asked(self):
        for machine in some_machines(73):
            told = classes(machine)
            self.assertEqual(sorted(stand for each in told for stand in each), all_of(machine))
            self.assertTrue(split_holds(machine, told))
            self.assertEqual([each[0] for each in told], sorted(each[0] for each in told))
            for each in told:
                check_set(self, each, machine.many())

    def test_a_spread_machine_has_as_many_classes_as_the_one_that_was_spread(self):
        chance = random.Random(74)
        for machine in chance_machines(75, 60, 8):
            self.assertEqual(len(classes(spread_machine(chance, machine, 4))), len(classes(machine)))


class FoldedTest(unittest.TestCase):
    def test_steps_marks_and_fair_sets(self):
        machine = Machine(
            [[5, 2], [3], [4], [4], [3, 1], [1]],
            [("z", [5, 0, 2, 1]), ("none", []), ("a", [4]), ("allx", [3, 0, 2, 1, 5, 4])],
            [[3, 0], [], [5, 4, 3, 2, 1, 0], [0]],
        )
        self.assertEqual(classes(machine), [[0], [1], [2], [3], [4], [5]])
        again = folded(machine)
        self.assertEqual(again.steps, [[2, 5], [3], [4], [4], [1, 3], [1]])
        self.assertEqual(
            again.marks, [("z", [0, 1, 2, 5]), ("none", []), ("a", [4]), ("allx", [0, 1, 2, 3, 4, 5])],
        )
        self.assertEqual(again.fair, [[0, 3], [], [0, 1, 2, 3, 4, 5], [0]])

    def test_a_machine_that_folds(self):
        machine = Machine(
            [[4, 1], [5, 0], [5], [1], [3, 2], [2]],
            [("b", [5, 2]), ("a", []), ("c", [4, 1, 5, 2])],
            [[5, 2], [], [3, 1, 0, 4]],
        )
        self.assertEqual(classes(machine), [[0, 3], [1, 4], [2, 5]])
        again = folded(machine)
        self.assertIsInstance(again, Machine)
        self.assertEqual(again.steps, [[1], [0, 2], [2]])
        self.assertEqual(again.marks, [("b", [2]), ("a", []), ("c", [1, 2])])
        self.assertEqual(again.fair, [[2], [], [0, 1]])

    def test_two_classes(self):
        machine = Machine(ring_steps(6), [("odd", [5, 1, 3]), ("no", [])], [[], [4, 0, 2], [0, 1, 2, 3, 4, 5]])
        again = folded(machine)
        self.assertEqual(again.steps, [[1], [0]])
        self.assertEqual(again.marks, [("odd", [1]), ("no", [])])
        self.assertEqual(again.fair, [[], [0], [0, 1]])

    def test_one_class(self):
        again = folded(Machine(ring_steps(60), [("a", []), ("b", list(range(60)))], [[], list(range(60))]))
        self.assertEqual((again.steps, again.marks, again.fair), ([[0]], [("a", []), ("b", [0])], [[], [0]]))

    def test_without_marks_and_fair_sets(self):
        again = folded(Machine([[1], [0]]))
        self.assertEqual((again.steps, again.marks, again.fair), ([[0]], [], []))

    def test_a_row_of_sixty_stands(self):
        again = folded(row_machine(60, [("a", [59])], [[59, 3]]))
        self.assertEqual(again.steps, [[stand + 1] for stand in range(59)] + [[59]])
        self.assertEqual((again.marks, again.fair), ([("a", [59])], [[3, 59]]))

    def test_against_the_classes(self):
        for machine in some_machines(76):
            told = classes(machine)
            again = folded(machine)
            self.assertEqual(again.many(), len(told))
            for number, stands in enumerate(told):
                for stand in stands:
                    hit = [other for other, each in enumerate(told) if set(each) & set(machine.steps[stand])]
                    self.assertEqual(again.steps[number], hit)
            self.assertEqual([name for name, stands in again.marks], [name for name, stands in machine.marks])
            pairs = [(new, old) for (name, new), (known, old) in zip(again.marks, machine.marks)]
            self.assertEqual(len(again.fair), len(machine.fair))
            for new, old in pairs + list(zip(again.fair, machine.fair)):
                self.assertEqual(new, [number for number, stands in enumerate(told) if stands[0] in old])
                self.assertEqual(sorted(old), sorted(stand for number in new for stand in told[number]))

    def test_folded_again(self):
        for machine in some_machines(77):
            once = folded(machine)
            twice = folded(once)
            self.assertEqual(classes(once), alone(once.many()))
            self.assertEqual((twice.steps, twice.marks, twice.fair), (once.steps, once.marks, once.fair))

    def test_each_saying_holds_at_a_class_where_it_holds_at_its_stands(self):
        chance = random.Random(78)
        smaller = 0
        for machine in some_machines(79):
            told = classes(machine)
            again = folded(machine)
            smaller += again.many() < machine.many()
            for number in range(12):
                saying = chance_saying(chance, 5)
                there = holds(again, saying)
                self.assertEqual(
                    holds(machine, saying), sorted(stand for each in there for stand in told[each]), saying.words(),
                )
        self.assertGreater(smaller, 60)

    def test_fair_sets_are_said_of_the_folded_machine_too(self):
        # Two rings of two, alike but for a fair set that one of them misses.
        machine = Machine([[1], [0], [3], [2]], [("a", [0, 2])], [[1]])
        self.assertEqual(classes(machine), [[0], [1], [2], [3]])
        self.assertEqual(holds(folded(machine), EachEver(Mark("b"))), [2, 3])
        machine = Machine([[1, 4], [0], [3, 5], [2], [4], [5]], [("a", [0, 2])], [[3, 1]])
        self.assertEqual(classes(machine), [[0, 2], [1, 3], [4, 5]])
        self.assertEqual(folded(machine).fair, [[1]])
        self.assertEqual(holds(folded(machine), SomeNext(Mark("c"))), [])
        self.assertEqual(holds(folded(machine), SomeAlways(SomeNext(Mark("a")))), [])
        self.assertEqual(holds(folded(machine), EachEver(Mark("b"))), [2])


class Looker:
    """Looks at all partings of a machine: together the reasons must prove that no more stands may be in one class."""

    def __init__(self, test, machine, told):
        self.test = test
        self.machine = machine
        self.told = told

    def look(self):
        many = self.machine.many()
        self.test.assertIs(type(self.told), list)
        self.test.assertEqual([len(row) for row in self.told], [many] * many)
        number_of = {stand: number for number, each in enumerate(classes(self.machine)) for stand in each}
        for one in range(many):
            self.test.assertIs(type(self.told[one]), list)
            for other in range(many):
                if number_of[one] == number_of[other]:
                    self.test.assertIsNone(self.told[one][other])
                else:
                    self.look_at(one, other)

    def look_at(self, one, other):
        parting = self.told[one][other]
        self.test.assertIs(type(parting), tuple)
        self.test.assertEqual(len(parting), 2)
        self.test.assertIs(type(parting[0]), int)
        self.test.assertGreaterEqual(parting[0], 0)
        self.test.assertIs(type(parting[1]), tuple)
        word, thing = parting[1]
        self.test.assertIn(word, ("mark", "fair", "step", "answer"))
        steps = self.machine.steps
        if word == "mark":
            self.test.assertIn(thing, names_at(self.machine, one) ^ names_at(self.machine, other))
        elif word == "fair":
            self.test.assertIn(thing, fairs_at(self.machine, one) ^ fairs_at(self.machine, other))
        elif word == "step":
            self.test.assertIn(thing, steps[one])
            self.look_behind(parting[0], [self.told[thing][answer] for answer in steps[other]])
        else:
            self.test.assertIn(thing, steps[other])
            self.look_behind(parting[0], [self.told[after][thing] for after in steps[one]])

    def look_behind(self, later, ahead):
        for parting in ahead:
            self.test.assertIsNotNone(parting)
            self.test.assertLess(parting[0], later)


class PartingsTest(unittest.TestCase):
    def look(self, machine):
        told = partings(machine)
        Looker(self, machine, told).look()
        return told

    def words(self, machine):
        return {parting[1][0] for row in self.look(machine) for parting in row if parting is not None}

    def test_by_a_mark(self):
        told = self.look(Machine([[0], [1]], [("b", []), ("a", [1])]))
        self.assertEqual([told[0][1][1], told[1][0][1]], [("mark", "a"), ("mark", "a")])
        self.assertEqual([told[0][0], told[1][1]], [None, None])

    def test_by_a_fair_set(self):
        told = self.look(Machine([[0, 1], [1, 0]], [("a", [1, 0])], [[0, 1], [0], []]))
        self.assertEqual([told[0][1][1], told[1][0][1]], [("fair", 1), ("fair", 1)])

    def test_by_a_step(self):
        # 0 steps to the marked one, 1 does not; from 1 there is no step without an answer.
        machine = Machine([[0, 2], [0, 1], [2]], [("a", [2])])
        told = self.look(machine)
        self.assertEqual(told[0][1][1], ("step", 2))
        self.assertEqual(told[1][0][1], ("answer", 2))
        self.assertGreater(told[0][1][0], told[2][1][0])

    def test_each_word(self):
        machine = Machine([[0, 2], [0, 1], [2], [3, 0]], [("a", [2])], [[3]])
        self.assertEqual(self.words(machine), {"mark", "fair", "step", "answer"})

    def test_all_in_one_class(self):
        self.assertEqual(self.look(Machine(ring_steps(3))), [[None] * 3] * 3)
        self.assertEqual(self.look(Machine([[0]], [("a", [0])], [[]])), [[None]])
        self.assertEqual(self.words(Machine(ring_steps(60), [("a", [])], [[]])), set())

    def test_a_row_of_sixty_stands_with_a_mark_at_the_last_one(self):
        told = self.look(row_machine(60, [("a", [59])]))
        self.assertEqual([one for one in range(60) for other in range(60) if told[one][other] is None], list(range(60)))
        # To part 0 from 1 takes all steps of 1 up to the mark, a round for each.
        self.assertGreaterEqual(told[0][1][0], 58)
        self.assertEqual({told[stand][59][1] for stand in range(59)}, {("mark", "a")})
        self.assertEqual({told[stand][other][1][0] for stand in range(58) for other in range(stand)}, {"step"})

    def test_against_what_is_asked(self):
        for machine in some_machines(80):
            self.look(machine)

    def test_large_machines(self):
        chance = random.Random(81)
        for degree in (1, 2, 5, 60):
            self.look(chance_machine(chance, 60, degree, 6))
        every = list(range(60))
        self.look(Machine([list(range(min(60, stand + 2))) for stand in every], [("a", [59])], [every, [], [59]]))
        marks = [(name, every[place::12]) for place, name in enumerate("abcdefghijkl")]
        self.look(Machine([every for stand in every], marks, [every[place:] for place in range(6)]))


class HandedInTest(unittest.TestCase):
    def test_it_stays_as_it_is_and_what_is_told_is_the_askers_own(self):
        for machine in some_machines(82)[::5]:
            kept = fields_of(machine)
            check_own(self, lambda: classes(machine))
            check_own(self, lambda: partings(machine))
            check_own(self, lambda: list(fields_of(folded(machine))[:3]))
            self.assertEqual(fields_of(machine), kept)

    def test_the_folded_machine_is_another_one(self):
        machine = Machine([[1], [0]], [("a", [1])], [[1]])
        again = folded(machine)
        again.steps[0].append(0)
        again.marks[0][1].clear()
        again.fair.clear()
        self.assertEqual((machine.steps, machine.marks, machine.fair), ([[1], [0]], [("a", [1])], [[1]]))
        self.assertEqual(folded(machine).steps, [[1], [0]])

    def test_machines_in_turn(self):
        one, other = Machine(ring_steps(4), [("a", [0])]), Machine(ring_steps(4))
        for turn in range(3):
            self.assertEqual(classes(one), alone(4))
            self.assertEqual(classes(other), [[0, 1, 2, 3]])
            self.assertEqual(partings(other), [[None] * 4] * 4)
            self.assertEqual((folded(one).many(), folded(other).many()), (4, 1))


if __name__ == "__main__":
    unittest.main()
