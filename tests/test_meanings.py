import random
import unittest

from helpers import (
    MARKS, OF_ONE, OF_TWO, OVER_EACH, OVER_SOME, PlainTeller, all_of, chance_machine, chance_machines, chance_saying,
    check_own, check_set, fields_of, ring_steps,
)
from treesay.fairness import alive, core
from treesay.machines import Machine
from treesay.meanings import holds, table
from treesay.rounds import growing, shrinking
from treesay.sayings import (
    All, Both, EachAlways, EachEver, EachNext, EachTill, Either, Mark, Not, SomeAlways, SomeEver, SomeNext, SomeTill,
)

# From 0 one comes by 1 to 2, which goes round, or to 3, which goes round until it goes on to 4, which goes round.
STEPS = [[3, 1], [2], [2], [4, 3], [4]]
EVERY = [0, 1, 2, 3, 4]
A, B, NONE = Mark("a"), Mark("b"), Mark("c")


def machine_with(fair):
    return Machine(STEPS, [("a", [3, 0, 1]), ("b", [2])], fair)


def of_each_kind(left, right):
    return [kind(left) for kind in OF_ONE] + [kind(left, right) for kind in OF_TWO]


class MeaningTest(unittest.TestCase):
    def check_all(self, machine, asked):
        for saying, stands in asked:
            with self.subTest(saying=" ".join(saying.words())):
                self.assertEqual(holds(machine, saying), stands)


class PlainSayingsTest(MeaningTest):
    def test_in_a_machine_without_fair_sets_and_in_one_with(self):
        for fair in (None, [[2, 4]], [[2]], [[]]):
            self.check_all(machine_with(fair), (
                (All(), EVERY),
                (A, [0, 1, 3]),
                (B, [2]),
                (Not(A), [2, 4]),
                (Not(All()), []),
                (Not(Not(A)), [0, 1, 3]),
                (Both(A, B), []),
                (Both(A, All()), [0, 1, 3]),
                (Both(Not(B), A), [0, 1, 3]),
                (Either(A, B), [0, 1, 2, 3]),
                (Either(B, Not(A)), [2, 4]),
                (Either(A, A), [0, 1, 3]),
            ))

    def test_a_mark_that_the_machine_has_not(self):
        for fair in (None, [[2]]):
            for name in ("c", "", "A", "aa", " a", "a ", "a\nb", "a long name of no mark"):
                self.assertEqual(holds(machine_with(fair), Mark(name)), [])
                self.assertEqual(holds(machine_with(fair), Not(Mark(name))), EVERY)

    def test_a_mark_without_stands(self):
        machine = Machine(STEPS, [("a", [])])
        self.assertEqual(holds(machine, A), [])
        self.assertEqual(holds(machine, Not(A)), EVERY)
        self.assertEqual(holds(machine, EachEver(A)), [])

    def test_a_machine_without_marks(self):
        self.assertEqual(holds(Machine(STEPS), Either(A, Not(B))), EVERY)

    def test_a_mark_called_by_a_word_of_a_saying(self):
        words = (
            "all", "not", "both", "either", "somenext", "eachnext", "sometill", "eachtill", "somealways", "eachalways",
            "someever", "eachever",
        )
        for word in words:
            for fair in (None, [[2]]):
                machine = machine_with(fair)
                self.assertEqual(holds(machine, Mark(word)), [])
                self.assertEqual(holds(machine, Not(Mark(word))), EVERY)
                self.assertEqual(holds(machine, Both(Mark(word), All())), [])
                self.assertEqual(table(machine, SomeEver(Mark(word))), [[], []])

    def test_a_mark_called_by_another_word_of_the_document(self):
        names = ("some", "each", "ever", "till", "always", "mark", "plain", "loop", "holds", "nowhere", "rank")
        machine = Machine(STEPS, [(name, [place % 5]) for place, name in enumerate(names)])
        for place, name in enumerate(names):
            self.assertEqual(holds(machine, Mark(name)), [place % 5])


class OverWalksTest(MeaningTest):
    def test_without_fair_sets(self):
        self.check_all(machine_with(None), (
            (SomeNext(A), [0, 3]),
            (SomeNext(Not(A)), [1, 2, 3, 4]),
            (EachNext(A), [0]),
            (EachNext(Not(A)), [1, 2, 4]),
            (SomeTill(A, B), [0, 1, 2]),
            (SomeTill(B, A), [0, 1, 3]),
            (SomeTill(NONE, B), [2]),
            (SomeTill(A, Not(A)), EVERY),
            (EachTill(A, B), [1, 2]),
            (EachTill(A, Not(A)), [1, 2, 4]),
            (EachTill(All(), B), [1, 2]),
            (EachTill(NONE, B), [2]),
            (SomeAlways(A), [0, 3]),
            (SomeAlways(Not(A)), [2, 4]),
            (SomeAlways(Not(B)), [0, 3, 4]),
            (EachAlways(A), []),
            (EachAlways(Not(B)), [3, 4]),
            (EachAlways(B), [2]),
            (SomeEver(B), [0, 1, 2]),
            (SomeEver(A), [0, 1, 3]),
            (EachEver(B), [1, 2]),
            (EachEver(Not(A)), [1, 2, 4]),
        ))

    def test_with_a_fair_set_and_no_dead_stand(self):
        machine = machine_with([[4, 2]])
        self.assertEqual(alive(machine), EVERY)
        self.check_all(machine, (
            (SomeNext(A), [0, 3]),
            (EachNext(A), [0]),
            (SomeTill(A, B), [0, 1, 2]),
            (EachTill(A, B), [1, 2]),
            (EachTill(A, Not(A)), EVERY),
            (SomeAlways(A), []),
            (SomeAlways(Not(B)), [0, 3, 4]),
            (EachAlways(Not(B)), [3, 4]),
            (SomeEver(B), [0, 1, 2]),
            (EachEver(Not(A)), EVERY),
            (EachEver(B), [1, 2]),
        ))

    def test_with_dead_stands(self):
        machine = machine_with([[2]])
        self.assertEqual(alive(machine), [0, 1, 2])
        self.check_all(machine, (
            (SomeNext(A), [0]),
            (SomeNext(All()), [0, 1, 2]),
            (EachNext(A), [0, 3, 4]),
            (EachNext(B), [1, 2, 3, 4]),
            (SomeTill(A, B), [0, 1, 2]),
            (SomeTill(B, A), [0, 1]),
            (SomeTill(A, Not(A)), [0, 1, 2]),
            (EachTill(A, B), EVERY),
            (EachTill(B, A), [0, 1, 3, 4]),
            (EachTill(NONE, B), [2, 3, 4]),
            (SomeAlways(A), []),
            (SomeAlways(All()), [0, 1, 2]),
            (EachAlways(A), [3, 4]),
            (EachAlways(Either(A, B)), EVERY),
            (SomeEver(A), [0, 1]),
            (SomeEver(Not(B)), [0, 1]),
            (EachEver(B), EVERY),
            (EachEver(NONE), [3, 4]),
        ))

    def test_with_several_fair_sets(self):
        # 0 and 1 and 2 are joined both ways: a fair walk comes to 1 and to 2 again and again.
        machine = Machine([[1, 2, 0], [0], [0]], [("a", [0, 1]), ("b", [2])], [[1], [2]])
        self.check_all(machine, (
            (SomeAlways(A), []),
            (EachEver(B), [0, 1, 2]),
            (EachEver(A), [0, 1, 2]),
            (EachTill(A, B), [0, 1, 2]),
            (EachAlways(EachEver(B)), [0, 1, 2]),
            (SomeEver(EachAlways(A)), []),
            (SomeNext(B), [0]),
            (EachNext(A), [1, 2]),
        ))

    def test_a_loop_of_one_stand(self):
        machine = Machine([[0]], [("a", [0])])
        for kind in OVER_SOME + OVER_EACH:
            for mark, asked in ((A, [0]), (B, [])):
                saying = kind(mark, mark) if kind in OF_TWO else kind(mark)
                self.assertEqual(holds(machine, saying), asked)

    def test_the_first_stand_of_a_walk_counts(self):
        machine = Machine([[1], [1]], [("a", [0]), ("b", [1])])
        self.check_all(machine, (
            (SomeEver(A), [0]),
            (EachEver(A), [0]),
            (SomeAlways(B), [1]),
            (EachAlways(B), [1]),
            (SomeTill(NONE, A), [0]),
            (EachTill(NONE, A), [0]),
            (SomeNext(A), []),
            (EachNext(A), []),
        ))

    def test_the_right_part_must_come_and_left_may_end_with_it(self):
        machine = Machine([[1], [2], [2]], [("a", [0]), ("b", [1])])
        self.check_all(machine, (
            (EachTill(A, B), [0, 1]),
            (SomeTill(A, B), [0, 1]),
            (EachTill(All(), NONE), []),
            (SomeTill(All(), NONE), []),
        ))

    def test_parts_over_walks(self):
        machine = machine_with(None)
        self.check_all(machine, (
            (SomeNext(EachNext(B)), [0, 1, 2]),
            (EachEver(SomeAlways(Not(A))), [1, 2, 4]),
            (SomeTill(SomeEver(B), EachAlways(B)), [0, 1, 2]),
            (EachAlways(SomeEver(Not(A))), EVERY),
            (Not(EachTill(A, SomeNext(B))), [0, 3, 4]),
        ))


class DeadStandsTest(MeaningTest):
    def parted(self, machine, saying):
        """At which dead stands it holds, and how many there are."""
        living = alive(machine)
        dead = [stand for stand in all_of(machine) if stand not in living]
        return [stand for stand in holds(machine, saying) if stand in dead], dead

    def test_each_saying_of_each_holds_there_and_none_of_some(self):
        parts = (All(), A, B, NONE, Not(A), SomeNext(A), EachEver(B), EachAlways(NONE))
        for machine in chance_machines("dead", 40, 7, 2, 3) + [machine_with([[2]]), machine_with([[]])]:
            for left in parts:
                for kind in OVER_EACH + OVER_SOME:
                    saying = kind(left, A) if kind in OF_TWO else kind(left)
                    told, dead = self.parted(machine, saying)
                    self.assertEqual(told, dead if kind in OVER_EACH else [])

    def test_with_an_empty_fair_set_all_are_dead(self):
        machine = machine_with([[0, 1, 2, 3, 4], []])
        for kind in OVER_EACH + OVER_SOME:
            for part in (All(), NONE):
                saying = kind(part, part) if kind in OF_TWO else kind(part)
                self.assertEqual(holds(machine, saying), EVERY if kind in OVER_EACH else [])


class ManyMachinesTest(MeaningTest):
    def test_against_the_words_of_the_document_over_all_fair_walks(self):
        chance = random.Random("plain meaning")
        for machine in chance_machines("tiny", 90, 3, 3, 2):
            teller = PlainTeller(machine)
            sayings = of_each_kind(A, B) + of_each_kind(Not(B), A)
            sayings += [chance_saying(chance, 4) for number in range(6)]
            for saying in sayings:
                told = holds(machine, saying)
                check_set(self, told, machine.many())
                self.assertEqual(told, teller.holds(saying), (saying.words(), machine.steps, machine.fair))

    def test_what_is_not_so_on_each_walk_is_otherwise_on_some(self):
        for machine in chance_machines("other way round", 40, 12, 3, 3) + chance_machines("wide", 3, 60, 3, 6):
            for left, right in ((A, B), (Not(B), A), (SomeNext(B), EachEver(A))):
                never = SomeAlways(Not(right))
                broken = SomeTill(Not(right), Both(Not(left), Not(right)))
                for each, some in (
                    (EachNext(left), SomeNext(Not(left))),
                    (EachAlways(left), SomeEver(Not(left))),
                    (EachEver(left), SomeAlways(Not(left))),
                    (EachTill(left, right), Either(never, broken)),
                ):
                    self.assertEqual(holds(machine, each), holds(machine, Not(some)))

    def test_without_fair_sets_the_last_sets_of_going_round(self):
        for machine in chance_machines("going round", 60, 12, 3, 0):
            left, right = machine.marked("a"), machine.marked("b")
            self.assertEqual(holds(machine, SomeTill(A, B)), growing(machine, left, right)[-1])
            self.assertEqual(holds(machine, SomeEver(B)), growing(machine, all_of(machine), right)[-1])
            self.assertEqual(holds(machine, SomeAlways(A)), shrinking(machine, left)[-1])

    def test_some_always_is_the_core(self):
        for machine in chance_machines("always", 60, 12, 3, 3):
            self.assertEqual(holds(machine, SomeAlways(A)), core(machine, machine.marked("a")))
            self.assertEqual(holds(machine, SomeAlways(All())), alive(machine))

    def test_sixty_stands_twelve_marks_six_fair_sets(self):
        names = "abcdefghijkl"
        marks = [(name, list(range(place, 60, place + 1))) for place, name in enumerate(names)]
        machine = Machine(ring_steps(60), marks, [[place * 10] for place in range(6)])
        every = list(range(60))
        for name in names:
            self.assertEqual(holds(machine, EachEver(Mark(name))), every)
            self.assertEqual(holds(machine, SomeAlways(Not(Mark(name)))), [])
        self.assertEqual(holds(machine, EachAlways(Mark("a"))), every)
        self.assertEqual(holds(machine, EachTill(Not(Mark("l")), Mark("l"))), every)
        # k stands at 10, 21, 32, 43, 54 and l at 11, 23, 35, 47, 59: what lies between a k and its l.
        self.assertEqual(
            holds(machine, EachTill(Not(Mark("k")), Mark("l"))),
            [11, 22, 23, 33, 34, 35, 44, 45, 46, 47, 55, 56, 57, 58, 59],
        )


class TableTest(MeaningTest):
    def test_of_a_saying_without_parts(self):
        machine = machine_with([[2]])
        self.assertEqual(table(machine, All()), [EVERY])
        self.assertEqual(table(machine, A), [[0, 1, 3]])
        self.assertEqual(table(machine, NONE), [[]])

    def test_the_parts_first_the_left_one_ahead(self):
        machine = machine_with(None)
        self.assertEqual(table(machine, Not(A)), [[0, 1, 3], [2, 4]])
        self.assertEqual(table(machine, SomeTill(A, B)), [[0, 1, 3], [2], [0, 1, 2]])
        self.assertEqual(table(machine, SomeTill(B, A)), [[2], [0, 1, 3], [0, 1, 3]])
        self.assertEqual(
            table(machine, EachTill(Both(A, All()), EachNext(B))),
            [[0, 1, 3], EVERY, [0, 1, 3], [2], [1, 2], [1, 2]],
        )

    def test_each_saying_as_often_as_it_stands_there(self):
        machine = machine_with(None)
        part = SomeNext(A)
        saying = Either(Both(part, part), part)
        one = [[0, 1, 3], [0, 3]]
        self.assertEqual(table(machine, saying), one + one + [[0, 3]] + one + [[0, 3]])

    def test_the_order_of_the_sayings_within(self):
        chance = random.Random("table")
        for number in range(60):
            machine = chance_machine(chance, chance.randint(1, 10), 3, chance.randint(0, 3))
            saying = chance_saying(chance, 5)
            told = table(machine, saying)
            self.assertIs(type(told), list)
            self.assertEqual(told, [holds(machine, part) for part in saying.within()])
            for each in told:
                check_set(self, each, machine.many())

    def test_two_hundred_parts_and_twenty_deep(self):
        machine = chance_machine(random.Random("deep"), 60, 3, 2)
        kinds = OF_ONE + OF_ONE + OF_ONE[:5]
        chain = A
        for kind in kinds:
            chain = kind(chain)
        self.assertEqual(len(chain.within()), 20)
        wide = Both(B, B)
        for level in range(5):
            wide = OF_TWO[level % 4](wide, SomeNext(wide))
        self.assertEqual(len(wide.within()), 158)
        saying = Either(wide, Not(Both(chain.part, chain.part.part)))
        self.assertLessEqual(len(saying.within()), 200)
        for each in (chain, wide, saying):
            self.assertEqual(table(machine, each), [holds(machine, part) for part in each.within()])


class HandedInTest(unittest.TestCase):
    def sayings(self):
        told = [All(), A, NONE] + of_each_kind(A, B) + of_each_kind(A, A)
        part = EachTill(A, B)
        return told + [Both(part, Not(part)), Either(All(), All()), Not(Not(A))]

    def test_it_stays_as_it_is_and_what_is_told_is_the_askers_own(self):
        for fair in (None, [[2]], [[2, 4], [4, 3, 2]]):
            machine = machine_with(fair)
            fields = fields_of(machine)
            for saying in self.sayings():
                words, within = saying.words(), [id(part) for part in saying.within()]
                values = [dict(vars(part)) for part in saying.within()]
                check_own(self, lambda: holds(machine, saying))
                check_own(self, lambda: table(machine, saying))
                self.assertEqual(fields_of(machine), fields)
                self.assertEqual(saying.words(), words)
                self.assertEqual([id(part) for part in saying.within()], within)
                self.assertEqual([dict(vars(part)) for part in saying.within()], values)

    def test_one_saying_asked_of_several_machines(self):
        saying = EachTill(A, Not(A))
        asked = [(fair, [1, 2, 4] if fair is None else EVERY) for fair in (None, [[2, 4]], None, [[2]], None)]
        for fair, stands in asked:
            self.assertEqual(holds(machine_with(fair), saying), stands)

    def test_marks_of_these_tests_are_those_of_the_machines(self):
        self.assertEqual(MARKS, (A.name, B.name))


if __name__ == "__main__":
    unittest.main()
