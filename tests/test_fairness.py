import random
import unittest

from helpers import (
    MOST_OF_A_WALK, all_of, all_sets, chance_machines, check_loop, check_own, check_ranks, check_set, fields_of,
    plain_core, plain_reach, ring_steps, some_of,
)
from treesay.fairness import alive, core, loop_of, ranks, reach
from treesay.machines import Machine

# Two loops, 1 2 and 3 4, both reached from 0; 5 steps to itself and to 0; 6 is a mere step on to 5.
STEPS = [[1, 3], [2], [1], [4], [3], [5, 0], [5]]
EVERY = [0, 1, 2, 3, 4, 5, 6]


def with_fair(fair):
    return Machine(STEPS, None, fair)


def wide_machines():
    """Up to sixty stands and six fair sets, with few steps and with many."""
    return chance_machines("wide few", 6, 60, 2, 6) + chance_machines("wide many", 3, 60, 60, 6)


class FairTest(unittest.TestCase):
    def check_whole(self, machine, within):
        """Core, loops and ranks of a set, held against one another: loops prove the core, ranks all others."""
        begins = core(machine, within)
        check_set(self, begins, machine.many())
        self.assertLessEqual(set(begins), set(within))
        for stand in all_of(machine):
            told = loop_of(machine, within, stand)
            if stand in begins:
                self.assertIs(type(told), tuple)
                self.assertEqual(len(told), 2)
                check_loop(self, machine, within, stand, told[0], told[1])
            else:
                self.assertIsNone(told)
        check_ranks(self, machine, within, sorted(set(within) - set(begins)), ranks(machine, within))


class ReachTest(unittest.TestCase):
    def test_within_all_stands(self):
        machine = with_fair([])
        self.assertEqual(reach(machine, EVERY, 0), [0, 1, 2, 3, 4])
        self.assertEqual(reach(machine, EVERY, 4), [3, 4])
        self.assertEqual(reach(machine, EVERY, 6), EVERY)

    def test_by_no_step_too(self):
        machine = with_fair([])
        self.assertEqual(reach(machine, [0], 0), [0])
        self.assertEqual(reach(machine, [0, 2, 4], 0), [0])
        self.assertEqual(reach(machine, [5], 5), [5])

    def test_only_by_stands_of_the_set(self):
        machine = with_fair([])
        self.assertEqual(reach(machine, [0, 2, 3, 4], 0), [0, 3, 4])
        self.assertEqual(reach(machine, [0, 1, 6], 6), [6])

    def test_fair_sets_are_not_looked_at(self):
        self.assertEqual(reach(with_fair([[]]), EVERY, 0), [0, 1, 2, 3, 4])

    def test_against_a_slow_teller(self):
        for machine in chance_machines("reach", 60, 6):
            for within in all_sets(all_of(machine)):
                for stand in within:
                    told = reach(machine, within, stand)
                    self.assertEqual(told, plain_reach(machine, within, stand))
                    check_set(self, told, machine.many())

    def test_sixty_stands(self):
        machine = Machine(ring_steps(60))
        self.assertEqual(reach(machine, all_of(machine), 30), all_of(machine))
        self.assertEqual(reach(machine, list(range(20, 50)), 30), list(range(30, 50)))


class CoreTest(FairTest):
    def test_without_fair_sets(self):
        machine = with_fair(None)
        self.assertEqual(core(machine, EVERY), EVERY)
        self.assertEqual(core(machine, [0, 1, 3, 4, 6]), [0, 3, 4])
        self.assertEqual(core(machine, [5, 6]), [5, 6])
        self.assertEqual(core(machine, [0, 1, 3, 6]), [])
        self.assertEqual(core(machine, []), [])

    def test_with_one_fair_set(self):
        self.assertEqual(core(with_fair([[2]]), EVERY), [0, 1, 2, 5, 6])
        self.assertEqual(core(with_fair([[2]]), [0, 1, 3, 4]), [])
        self.assertEqual(core(with_fair([[5]]), EVERY), [5, 6])
        self.assertEqual(core(with_fair([[2, 4]]), EVERY), EVERY)

    def test_a_fair_set_that_is_met_once_alone(self):
        self.assertEqual(core(with_fair([[0, 6]]), EVERY), [])

    def test_with_several_fair_sets(self):
        self.assertEqual(core(with_fair([[1], [2]]), EVERY), [0, 1, 2, 5, 6])
        self.assertEqual(core(with_fair([[1, 3], [2, 4], [1, 4]]), EVERY), EVERY)
        self.assertEqual(core(with_fair([[1, 3], [2, 4], [1, 4]]), [0, 2, 3, 4]), [0, 3, 4])

    def test_two_loops_each_of_which_misses_a_fair_set(self):
        self.assertEqual(core(with_fair([[1, 5], [3, 5]]), EVERY), [5, 6])
        self.assertEqual(core(with_fair([[1], [3]]), EVERY), [])

    def test_with_an_empty_fair_set_no_walk_is_fair(self):
        for fair in ([[]], [[1, 2, 3], []], [[], EVERY]):
            self.assertEqual(core(with_fair(fair), EVERY), [])
            self.assertEqual(alive(with_fair(fair)), [])

    def test_a_set_that_holds_no_loop(self):
        for fair in ([], [EVERY]):
            self.assertEqual(core(with_fair(fair), [0, 1, 3, 6]), [])

    def test_a_loop_of_one_stand(self):
        self.assertEqual(core(with_fair([[5]]), [5]), [5])
        self.assertEqual(core(with_fair([[0]]), [0]), [])
        self.assertEqual(core(Machine([[0]]), [0]), [0])
        self.assertEqual(core(Machine([[0]], None, [[0], [0]]), [0]), [0])

    def test_the_way_to_the_loop_stays_in_the_set(self):
        machine = Machine([[1], [2], [2]])
        self.assertEqual(core(machine, [0, 2]), [2])
        self.assertEqual(core(machine, [0, 1, 2]), [0, 1, 2])

    def test_loops_that_share_a_stand_are_one(self):
        machine = Machine([[1, 2], [0], [0]], None, [[1], [2]])
        self.assertEqual(core(machine, [0, 1, 2]), [0, 1, 2])
        self.assertEqual(core(machine, [0, 1]), [])

    def test_against_all_sets_that_a_walk_might_come_to_again_and_again(self):
        for machine in chance_machines("core", 120, 5, 3, 3):
            for within in all_sets(all_of(machine)):
                told = core(machine, within)
                self.assertEqual(told, plain_core(machine, within))
                check_set(self, told, machine.many())


class AliveTest(FairTest):
    def test_without_fair_sets_all_are(self):
        for machine in chance_machines("alive", 20, 60, 4, 0):
            self.assertEqual(alive(machine), all_of(machine))

    def test_those_at_which_a_fair_walk_begins(self):
        self.assertEqual(alive(with_fair([[2]])), [0, 1, 2, 5, 6])
        self.assertEqual(alive(with_fair([[5]])), [5, 6])
        self.assertEqual(alive(with_fair([[6]])), [])

    def test_the_core_of_all_stands(self):
        for machine in chance_machines("alive too", 150, 6, 2, 3):
            self.assertEqual(alive(machine), plain_core(machine, all_of(machine)))

    def test_from_a_dead_stand_one_comes_to_dead_ones_alone(self):
        for machine in chance_machines("dead", 150, 8, 2, 3):
            living = alive(machine)
            for stand in all_of(machine):
                if stand not in living:
                    self.assertEqual(set(machine.steps[stand]) & set(living), set())


class LoopTest(FairTest):
    def test_of_one_stand(self):
        self.assertEqual(loop_of(Machine([[0]]), [0], 0), ([0], [0]))

    def test_none_for_stands_outside_the_core(self):
        machine = with_fair([[2]])
        self.assertIsNone(loop_of(machine, EVERY, 3))
        self.assertIsNone(loop_of(machine, EVERY, 4))
        self.assertIsNone(loop_of(machine, [0, 2], 2))

    def test_none_for_stands_outside_the_set(self):
        machine = with_fair([])
        self.assertIsNone(loop_of(machine, [1, 2], 0))
        self.assertIsNone(loop_of(machine, [], 1))

    def test_a_loop_must_not_be_a_lone_stand_without_a_step_to_itself(self):
        machine = Machine([[1], [0]], None, [[0]])
        walk, loop = loop_of(machine, [0, 1], 0)
        self.assertEqual((walk[0], walk[-1] == loop[0], sorted(loop)), (0, True, [0, 1]))

    def test_each_fair_set_is_met(self):
        machine = Machine([[1, 2], [0], [0]], None, [[2], [1], [0]])
        for stand in (0, 1, 2):
            walk, loop = loop_of(machine, [0, 1, 2], stand)
            check_loop(self, machine, [0, 1, 2], stand, walk, loop)
            self.assertEqual(set(loop), {0, 1, 2})

    def test_a_near_loop_that_is_not_fair_is_passed_by(self):
        machine = Machine([[0, 1], [1, 2], [3], [3]], None, [[3]])
        walk, loop = loop_of(machine, [0, 1, 2, 3], 0)
        check_loop(self, machine, [0, 1, 2, 3], 0, walk, loop)
        self.assertEqual(set(loop), {3})

    def test_on_a_ring_of_sixty_stands_with_six_fair_sets(self):
        orders = ([10, 20, 30, 40, 50, 59], [59, 50, 40, 30, 20, 10], [5, 4, 3, 2, 1, 0], [0, 1, 2, 3, 4, 5])
        for order in orders:
            machine = Machine(ring_steps(60), None, [[stand] for stand in order])
            for stand in range(60):
                walk, loop = loop_of(machine, list(range(60)), stand)
                check_loop(self, machine, list(range(60)), stand, walk, loop)

    def test_a_long_way_to_a_long_ring(self):
        steps = [[stand + 1] for stand in range(59)] + [[30]]
        machine = Machine(steps, None, [[stand] for stand in (58, 52, 46, 40, 34, 30)])
        self.check_whole(machine, list(range(60)))

    def test_sixty_stands_whose_loops_are_far_from_one_another(self):
        # A road with a way back stand by stand: from fair set to fair set there are many steps.
        steps = [[max(stand - 1, 0), min(stand + 1, 59)] for stand in range(60)]
        steps = [sorted(set(targets)) for targets in steps]
        machine = Machine(steps, None, [[0], [59], [1], [58], [2], [57]])
        self.check_whole(machine, list(range(60)))
        walk, loop = loop_of(machine, list(range(60)), 30)
        self.assertLessEqual(len(walk) + len(loop), MOST_OF_A_WALK)

    def test_for_each_stand_of_the_core(self):
        for machine in chance_machines("loops", 60, 5, 3, 3):
            for within in all_sets(all_of(machine)):
                self.check_whole(machine, within)

    def test_of_wide_machines(self):
        chance = random.Random("loops of wide ones")
        for machine in wide_machines():
            self.check_whole(machine, all_of(machine))
            self.check_whole(machine, sorted(some_of(chance, machine.many())))


class RanksTest(FairTest):
    def test_none_for_stands_of_the_core_and_outside_the_set(self):
        machine = with_fair([])
        self.assertEqual(ranks(machine, EVERY), [None] * 7)
        told = ranks(machine, [0, 3, 4, 6])
        self.assertEqual([rank is None for rank in told], [True, True, True, True, True, True, False])
        self.assertEqual(ranks(machine, []), [None] * 7)

    def test_a_row_falls_without_a_missed_set(self):
        machine = Machine([[1], [2], [3], [3]])
        told = ranks(machine, [0, 1, 2])
        check_ranks(self, machine, [0, 1, 2], [0, 1, 2], told)
        self.assertGreater(told[0][0], told[1][0])
        self.assertGreater(told[1][0], told[2][0])

    def test_a_loop_names_the_set_that_it_misses(self):
        machine = with_fair([[1, 2, 3], [1, 5], [3, 5]])
        told = ranks(machine, EVERY)
        check_ranks(self, machine, EVERY, EVERY, told)
        self.assertEqual([told[stand][1] for stand in (1, 2, 3, 4, 5)], [2, 2, 1, 1, 0])

    def test_a_loop_of_one_stand_names_the_set_that_it_misses(self):
        machine = Machine([[0]], None, [[0], []])
        told = ranks(machine, [0])
        check_ranks(self, machine, [0], [0], told)
        self.assertEqual(told[0][1], 1)

    def test_a_way_from_loop_to_loop(self):
        # 0 and 1 go round and miss the second set, 3 and 4 go round and miss the first one, 2 lies between.
        machine = Machine([[1], [0, 2], [3], [4], [3]], None, [[0, 2], [2, 4]])
        told = ranks(machine, [0, 1, 2, 3, 4])
        check_ranks(self, machine, [0, 1, 2, 3, 4], [0, 1, 2, 3, 4], told)
        self.assertGreater(told[1][0], told[2][0])
        self.assertGreater(told[2][0], told[3][0])

    def test_with_an_empty_fair_set_each_stand_has_one(self):
        for machine in chance_machines("no walk", 40, 12, 4, 0):
            machine = Machine(machine.steps, None, [all_of(machine), []])
            check_ranks(self, machine, all_of(machine), all_of(machine), ranks(machine, all_of(machine)))

    def test_what_lies_outside_the_set_does_not_count(self):
        machine = Machine([[1], [0, 2], [1]], None, [[2]])
        told = ranks(machine, [0, 1])
        check_ranks(self, machine, [0, 1], [0, 1], told)
        self.assertEqual(told[0], told[1])

    def test_sixty_stands(self):
        row = Machine([[stand + 1] for stand in range(59)] + [[59]], None, [[0]])
        check_ranks(self, row, all_of(row), all_of(row), ranks(row, all_of(row)))
        ring = Machine(ring_steps(60), None, [[0], []])
        check_ranks(self, ring, all_of(ring), all_of(ring), ranks(ring, all_of(ring)))

    def test_for_each_set(self):
        for machine in chance_machines("ranks", 60, 5, 3, 3):
            for within in all_sets(all_of(machine)):
                asked = sorted(set(within) - set(plain_core(machine, within)))
                check_ranks(self, machine, within, asked, ranks(machine, within))


class HandedInTest(unittest.TestCase):
    def setUp(self):
        self.machine = Machine([[3, 1], [2, 0], [1, 0], [4, 3], [4]], [("a", [2, 0])], [[3, 1], [2, 3]])
        self.within = [0, 1, 2, 4]

    def asks(self):
        machine, within = self.machine, self.within
        return (
            lambda: reach(machine, within, 1),
            lambda: core(machine, within),
            lambda: alive(machine),
            lambda: loop_of(machine, within, 0),
            lambda: loop_of(machine, [3], 3),
            lambda: ranks(machine, within),
        )

    def test_it_stays_as_it_is(self):
        fields = fields_of(self.machine)
        for ask in self.asks():
            ask()
            self.assertEqual(self.within, [0, 1, 2, 4])
            self.assertEqual(fields_of(self.machine), fields)

    def test_what_is_told_is_the_askers_own(self):
        fields = fields_of(self.machine)
        for ask in self.asks():
            check_own(self, ask)
            self.assertEqual(self.within, [0, 1, 2, 4])
            self.assertEqual(fields_of(self.machine), fields)

    def test_what_is_done_later_to_what_was_handed_in_changes_nothing(self):
        asks = self.asks()
        told = [ask() for ask in asks]
        kept = [ask() for ask in asks]
        self.within.clear()
        self.assertEqual(told, kept)


if __name__ == "__main__":
    unittest.main()
