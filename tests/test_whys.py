import random
import unittest

from helpers import (
    OF_ONE, OF_TWO, all_of, chance_machine, chance_machines, chance_saying, check_loop, check_own, check_ranks,
    check_walk, fields_of, ring_steps,
)
from treesay.fairness import alive
from treesay.machines import Machine
from treesay.meanings import holds
from treesay.sayings import (
    All, Both, EachAlways, EachEver, EachNext, EachTill, Either, Mark, Not, SomeAlways, SomeEver, SomeNext, SomeTill,
)
from treesay.whys import lives, whys

# From 0 one comes by 1 to 2, which goes round, or to 3, which goes round until it goes on to 4, which goes round.
STEPS = [[3, 1], [2], [2], [4, 3], [4]]
EVERY = [0, 1, 2, 3, 4]
A, B, NONE = Mark("a"), Mark("b"), Mark("c")
# Of each word of a reason, how many things stand behind it.
FORMS = {
    "plain": 0, "none": 0, "shut": 0, "out": 0, "here": 0, "dead": 0, "step": 1, "walk": 1, "loop": 2, "rank": 2,
}


def machine_with(fair):
    return Machine(STEPS, [("a", [3, 0, 1]), ("b", [2])], fair)


class Looker:
    """Looks at each reason of a saying's whys: together the reasons must prove all that the truths say."""

    def __init__(self, test, machine, saying, told):
        self.test = test
        self.machine = machine
        self.saying = saying
        self.told = told
        self.living = alive(machine)
        self.every = all_of(machine)
        self.true_at = [stand for stand, (truth, reason) in enumerate(told) if truth]
        self.words = [reason[0] for truth, reason in told]

    def good(self, part):
        return [stand for stand in self.living if stand in part]

    def bad(self, part):
        return [stand for stand in self.living if stand not in part]

    def others(self, stands):
        return [stand for stand in self.every if stand not in stands]

    def expect(self, words):
        """The words that there may be, by truth: {True: .., False: ..}."""
        for truth, reason in self.told:
            self.test.assertIn(reason[0], words[truth])

    def look(self):
        saying = self.saying
        if isinstance(saying, (All, Mark, Not, Both, Either)):
            self.expect({True: ("plain",), False: ("plain",)})
        elif isinstance(saying, (SomeTill, EachTill)):
            left, right = holds(self.machine, saying.left), holds(self.machine, saying.right)
            self.look_at_till(isinstance(saying, SomeTill), left, right)
        else:
            self.look_at_one(holds(self.machine, saying.part))

    def look_at_one(self, part):
        saying = self.saying
        if isinstance(saying, SomeNext):
            self.look_at_steps(True, self.good(part))
        elif isinstance(saying, EachNext):
            self.look_at_steps(False, self.bad(part))
        elif isinstance(saying, EachAlways):
            self.look_at_walks(False, self.every, self.bad(part))
        elif isinstance(saying, SomeAlways):
            self.look_at_staying(part)
        else:
            self.look_at_till(isinstance(saying, SomeEver), self.every, part)

    def look_at_till(self, some, left, right):
        if some:
            self.look_at_walks(True, left, self.good(right))
        else:
            self.look_at_each_till(left, right)

    def look_at_steps(self, truth_of_step, goal):
        self.expect({truth_of_step: ("step",), not truth_of_step: ("none",)})
        for stand, (truth, reason) in enumerate(self.told):
            if reason[0] == "step":
                self.test.assertIn(reason[1], self.machine.steps[stand])
                self.test.assertIn(reason[1], goal)
            else:
                self.test.assertEqual(set(self.machine.steps[stand]) & set(goal), set())

    def look_at_walks(self, truth_of_walk, through, goal):
        self.expect({truth_of_walk: ("walk",), not truth_of_walk: ("shut",)})
        for stand, (truth, reason) in enumerate(self.told):
            if reason[0] == "walk":
                self.look_at_walk(stand, reason[1], through, goal)
            else:
                self.test.assertNotIn(stand, goal)
                if stand in through:
                    # No way leads out of the shut stands.
                    self.test.assertEqual({self.words[after] for after in self.machine.steps[stand]}, {"shut"})

    def look_at_walk(self, stand, walk, through, goal):
        check_walk(self.test, self.machine, stand, walk)
        self.test.assertIn(walk[-1], goal)
        self.test.assertLessEqual(set(walk[:-1]), set(through))

    def look_at_loops(self, within):
        for stand, (truth, reason) in enumerate(self.told):
            if reason[0] == "loop":
                check_loop(self.test, self.machine, within, stand, reason[1], reason[2])

    def look_at_ranks(self, within):
        ranks = [reason[1:] if reason[0] == "rank" else None for truth, reason in self.told]
        ranked = [stand for stand in self.every if ranks[stand] is not None]
        check_ranks(self.test, self.machine, within, ranked, ranks)

    def look_at_staying(self, part):
        self.expect({True: ("loop",), False: ("out", "rank")})
        for stand, word in enumerate(self.words):
            self.test.assertEqual(word == "out", stand not in part)
        self.look_at_loops(part)
        self.look_at_ranks(part)

    def look_at_each_till(self, left, right):
        self.expect({True: ("here", "dead", "rank"), False: ("walk", "loop")})
        waiting = self.others(right)
        for stand, (truth, reason) in enumerate(self.told):
            self.test.assertEqual(reason[0] == "here", stand in right)
            self.test.assertEqual(reason[0] == "dead", stand not in right and stand not in self.living)
            if reason[0] == "walk":
                self.look_at_walk(stand, reason[1], waiting, self.bad(left))
                self.test.assertIn(reason[1][-1], waiting)
            elif reason[0] == "rank":
                # Left holds still, and by each step it goes on so, till right comes.
                self.test.assertIn(stand, left)
                for after in self.machine.steps[stand]:
                    self.test.assertIn(after, self.true_at)
        self.look_at_loops(waiting)
        self.look_at_ranks([stand for stand in self.good(waiting) if stand in self.true_at])


class WhyTest(unittest.TestCase):
    def check(self, machine, saying):
        """Looks at the whole list, and tells it."""
        told = whys(machine, saying)
        self.assertIs(type(told), list)
        self.assertEqual(len(told), machine.many())
        for each in told:
            self.assertIs(type(each), tuple)
            self.assertEqual(len(each), 2)
            self.assertIs(type(each[0]), bool)
            self.assertIs(type(each[1]), tuple)
            self.assertEqual(len(each[1]) - 1, FORMS[each[1][0]])
        self.assertEqual([stand for stand, each in enumerate(told) if each[0]], holds(machine, saying))
        Looker(self, machine, saying, told).look()
        return told

    def check_words(self, machine, saying, asked):
        told = self.check(machine, saying)
        self.assertEqual([(truth, reason[0]) for truth, reason in told], asked)

    def check_told(self, machine, saying, asked):
        self.assertEqual(self.check(machine, saying), asked)


class LivesTest(unittest.TestCase):
    def check(self, machine):
        told = lives(machine)
        self.assertIs(type(told), list)
        self.assertEqual(len(told), machine.many())
        living, every = alive(machine), all_of(machine)
        dead = [stand for stand in every if stand not in living]
        ranks = [None for stand in every]
        for stand, life in enumerate(told):
            self.assertIs(type(life), tuple)
            self.assertEqual(len(life), 3)
            self.assertEqual(life[0], "loop" if stand in living else "rank")
            if stand in living:
                check_loop(self, machine, every, stand, life[1], life[2])
            else:
                ranks[stand] = life[1:]
        check_ranks(self, machine, every, dead, ranks)
        return told

    def test_all_alive(self):
        self.assertEqual({life[0] for life in self.check(machine_with(None))}, {"loop"})
        self.assertEqual(self.check(Machine([[0]])), [("loop", [0], [0])])

    def test_some_dead(self):
        words = [life[0] for life in self.check(machine_with([[2]]))]
        self.assertEqual(words, ["loop", "loop", "loop", "rank", "rank"])

    def test_all_dead(self):
        told = self.check(machine_with([EVERY, []]))
        self.assertEqual({life[0] for life in told}, {"rank"})
        self.assertEqual([told[stand][2] for stand in (2, 3, 4)], [1, 1, 1])

    def test_many_machines(self):
        for machine in chance_machines("lives", 100, 9, 3, 4) + chance_machines("wide lives", 4, 60, 3, 6):
            self.check(machine)

    def test_a_ring_of_sixty_stands_with_six_fair_sets(self):
        self.check(Machine(ring_steps(60), None, [[50], [40], [30], [20], [10], [0]]))


class PlainTest(WhyTest):
    def test_both_truths_of_each(self):
        for fair in (None, [[2]], [[]]):
            for saying in (All(), A, NONE, Not(A), Both(A, Not(B)), Either(B, Not(A)), Not(EachNext(A))):
                told = self.check(machine_with(fair), saying)
                self.assertEqual({reason for truth, reason in told}, {("plain",)})

    def test_in_a_row(self):
        plain = ("plain",)
        self.check_told(machine_with(None), A, [(True, plain), (True, plain), (False, plain), (True, plain),
                                                (False, plain)])

    def test_a_mark_called_by_a_word_of_a_saying(self):
        for word in ("all", "not", "somenext", "eachtill", "someever"):
            self.check_told(machine_with(None), Mark(word), [(False, ("plain",))] * 5)


class StepTest(WhyTest):
    def test_some_next(self):
        none = (False, ("none",))
        told = self.check(machine_with(None), SomeNext(A))
        self.assertIn(told[0][1][1], (1, 3))
        self.assertEqual(told[1:], [none, none, (True, ("step", 3)), none])

    def test_each_next(self):
        self.check_told(machine_with(None), EachNext(A), [
            (True, ("none",)), (False, ("step", 2)), (False, ("step", 2)), (False, ("step", 4)), (False, ("step", 4)),
        ])

    def test_some_next_among_dead_stands(self):
        # 3 has the mark, but is dead: a step to it is none to a good stand.
        self.check_told(machine_with([[2]]), SomeNext(A), [
            (True, ("step", 1)), (False, ("none",)), (False, ("none",)), (False, ("none",)), (False, ("none",)),
        ])

    def test_each_next_among_dead_stands(self):
        self.check_told(machine_with([[2]]), EachNext(NONE), [
            (False, ("step", 1)), (False, ("step", 2)), (False, ("step", 2)), (True, ("none",)), (True, ("none",)),
        ])


class WalkTest(WhyTest):
    def test_some_till(self):
        shut = (False, ("shut",))
        self.check_told(machine_with(None), SomeTill(A, B), [
            (True, ("walk", [0, 1, 2])), (True, ("walk", [1, 2])), (True, ("walk", [2])), shut, shut,
        ])

    def test_some_till_where_left_ends_too_soon(self):
        self.check_words(machine_with(None), SomeTill(NONE, B), [
            (False, "shut"), (False, "shut"), (True, "walk"), (False, "shut"), (False, "shut"),
        ])

    def test_some_till_that_comes_to_a_dead_stand_alone(self):
        self.check_words(machine_with([[2]]), SomeTill(All(), Both(Not(B), Not(A))), [(False, "shut")] * 5)

    def test_some_till_through_a_dead_goal_is_none(self):
        # 3 and 0 have the mark; at 3, which is dead, the right part holds, but no fair walk begins.
        told = self.check(machine_with([[2]]), SomeTill(NONE, A))
        self.assertEqual([truth for truth, reason in told], [True, True, False, False, False])

    def test_some_ever(self):
        self.check_words(machine_with(None), SomeEver(B), [
            (True, "walk"), (True, "walk"), (True, "walk"), (False, "shut"), (False, "shut"),
        ])
        self.check_words(machine_with([[2]]), SomeEver(Not(B)), [
            (True, "walk"), (True, "walk"), (False, "shut"), (False, "shut"), (False, "shut"),
        ])

    def test_each_always(self):
        self.check_words(machine_with(None), EachAlways(Not(B)), [
            (False, "walk"), (False, "walk"), (False, "walk"), (True, "shut"), (True, "shut"),
        ])

    def test_each_always_among_dead_stands(self):
        # The part fails at 4, but 4 is dead; at 2, which is alive, it fails too.
        self.check_words(machine_with([[2]]), EachAlways(A), [
            (False, "walk"), (False, "walk"), (False, "walk"), (True, "shut"), (True, "shut"),
        ])
        self.check_words(machine_with([[2]]), EachAlways(Either(A, B)), [(True, "shut")] * 5)

    def test_sixty_stands(self):
        ring = Machine(ring_steps(60), [("a", [59])], [[7]])
        told = self.check(ring, SomeEver(A))
        self.assertEqual(told[0], (True, ("walk", list(range(60)))))
        self.check(ring, EachAlways(Not(A)))


class SomeAlwaysTest(WhyTest):
    def test_without_fair_sets(self):
        self.check_words(machine_with(None), SomeAlways(A), [
            (True, "loop"), (False, "rank"), (False, "out"), (True, "loop"), (False, "out"),
        ])
        self.check_told(machine_with(None), SomeAlways(B), [
            (False, ("out",)), (False, ("out",)), (True, ("loop", [2], [2])), (False, ("out",)), (False, ("out",)),
        ])

    def test_with_a_fair_set_that_a_loop_misses(self):
        machine = machine_with([[2, 4]])
        told = self.check(machine, SomeAlways(A))
        self.assertEqual([reason[0] for truth, reason in told], ["rank", "rank", "out", "rank", "out"])
        self.assertEqual(told[3][1][2], 0)

    def test_among_dead_stands(self):
        self.check_words(machine_with([[2]]), SomeAlways(All()), [
            (True, "loop"), (True, "loop"), (True, "loop"), (False, "rank"), (False, "rank"),
        ])
        self.check_words(machine_with([[2]]), SomeAlways(Not(A)), [
            (False, "out"), (False, "out"), (True, "loop"), (False, "out"), (False, "rank"),
        ])

    def test_where_the_part_holds_nowhere(self):
        self.check_told(machine_with(None), SomeAlways(NONE), [(False, ("out",))] * 5)


class EachTillTest(WhyTest):
    def test_here_and_rank(self):
        self.check_words(machine_with([[2, 4]]), EachTill(A, Not(A)), [
            (True, "rank"), (True, "rank"), (True, "here"), (True, "rank"), (True, "here"),
        ])

    def test_a_loop_that_goes_on_without_the_right_part(self):
        machine = Machine([[0, 1], [1]], [("a", [0]), ("b", [1])])
        self.check_told(machine, EachTill(A, B), [(False, ("loop", [0], [0])), (True, ("here",))])

    def test_a_walk_on_which_left_ends_too_soon(self):
        machine = Machine([[1], [2], [2]], [("a", [0]), ("b", [2])])
        self.check_told(machine, EachTill(A, B), [
            (False, ("walk", [0, 1])), (False, ("walk", [1])), (True, ("here",)),
        ])

    def test_here_goes_ahead_of_dead(self):
        machine = machine_with([[2]])
        self.check_words(machine, EachTill(B, A), [
            (True, "here"), (True, "here"), (False, "loop"), (True, "here"), (True, "dead"),
        ])

    def test_among_dead_stands(self):
        self.check_words(machine_with([[2]]), EachTill(A, B), [
            (True, "rank"), (True, "rank"), (True, "here"), (True, "dead"), (True, "dead"),
        ])
        self.check_words(machine_with([[2]]), EachTill(NONE, B), [
            (False, "walk"), (False, "walk"), (True, "here"), (True, "dead"), (True, "dead"),
        ])

    def test_where_all_are_dead(self):
        self.check_words(machine_with([[]]), EachTill(NONE, B), [
            (True, "dead"), (True, "dead"), (True, "here"), (True, "dead"), (True, "dead"),
        ])

    def test_ranks_that_stay_name_the_missed_set(self):
        # 0 and 1 go round, but a fair walk leaves them.
        machine = Machine([[1], [0, 2], [2]], [("b", [2])], [[0, 1, 2], [2]])
        told = self.check(machine, EachTill(All(), B))
        self.assertEqual([reason[0] for truth, reason in told], ["rank", "rank", "here"])
        self.assertEqual((told[0][1][2], told[1][1][2]), (1, 1))

    def test_each_ever(self):
        self.check_words(machine_with(None), EachEver(B), [
            (False, "loop"), (True, "rank"), (True, "here"), (False, "loop"), (False, "loop"),
        ])
        self.check_words(machine_with([[2]]), EachEver(B), [
            (True, "rank"), (True, "rank"), (True, "here"), (True, "dead"), (True, "dead"),
        ])
        self.check_words(machine_with([[2]]), EachEver(NONE), [
            (False, "loop"), (False, "loop"), (False, "loop"), (True, "dead"), (True, "dead"),
        ])
        self.check_words(machine_with([[2, 4]]), EachEver(Not(A)), [
            (True, "rank"), (True, "rank"), (True, "here"), (True, "rank"), (True, "here"),
        ])

    def test_sixty_stands(self):
        ring = Machine(ring_steps(60), [("a", [59])], [[stand] for stand in (50, 40, 30, 20, 10, 0)])
        self.check_words(ring, EachEver(A), [(True, "rank")] * 59 + [(True, "here")])
        self.check_words(ring, EachEver(NONE), [(False, "loop")] * 60)


class ManyMachinesTest(WhyTest):
    def sayings(self):
        for left, right in ((A, B), (Not(B), A), (All(), B), (B, NONE), (SomeNext(B), EachEver(A))):
            for kind in OF_ONE:
                yield kind(left)
            for kind in OF_TWO:
                yield kind(left, right)

    def test_each_kind_of_saying(self):
        found = set()
        machines = chance_machines("whys", 60, 8, 3, 3) + chance_machines("wide whys", 3, 60, 3, 6)
        for machine in machines:
            for saying in self.sayings():
                for truth, reason in self.check(machine, saying):
                    found.add((saying.words()[0], truth, reason[0]))
        asked = {(word, truth, "plain") for word in ("not", "both", "either") for truth in (True, False)}
        asked |= {("somenext", True, "step"), ("somenext", False, "none")}
        asked |= {("eachnext", False, "step"), ("eachnext", True, "none")}
        asked |= {(word, True, "walk") for word in ("sometill", "someever")}
        asked |= {(word, False, "shut") for word in ("sometill", "someever")}
        asked |= {("eachalways", False, "walk"), ("eachalways", True, "shut")}
        asked |= {("somealways", True, "loop"), ("somealways", False, "out"), ("somealways", False, "rank")}
        for word in ("eachtill", "eachever"):
            asked |= {(word, True, "here"), (word, True, "dead"), (word, True, "rank"), (word, False, "loop")}
        asked |= {("eachtill", False, "walk")}
        self.assertEqual(found, asked)

    def test_nested_sayings(self):
        chance = random.Random("nested whys")
        for number in range(150):
            machine = chance_machine(chance, chance.randint(1, 12), 3, chance.randint(0, 3))
            self.check(machine, chance_saying(chance, 5))


class HandedInTest(unittest.TestCase):
    def sayings(self):
        return [All(), A] + [kind(A) for kind in OF_ONE] + [kind(A, B) for kind in OF_TWO] + [EachTill(B, B)]

    def test_it_stays_as_it_is_and_what_is_told_is_the_askers_own(self):
        ring = Machine(ring_steps(5), [("a", EVERY), ("b", [2])], [[1], [4]])
        for machine in (machine_with(None), machine_with([[2]]), machine_with([[2, 4]]), ring):
            fields = fields_of(machine)
            check_own(self, lambda: lives(machine))
            self.assertEqual(fields_of(machine), fields)
            for saying in self.sayings():
                words, within = saying.words(), [id(part) for part in saying.within()]
                values = [dict(vars(part)) for part in saying.within()]
                check_own(self, lambda: whys(machine, saying))
                self.assertEqual(fields_of(machine), fields)
                self.assertEqual(saying.words(), words)
                self.assertEqual([id(part) for part in saying.within()], within)
                self.assertEqual([dict(vars(part)) for part in saying.within()], values)


if __name__ == "__main__":
    unittest.main()
