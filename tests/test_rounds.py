import random
import unittest

from helpers import (
    all_of, all_sets, chance_machines, check_own, check_set, fields_of, plain_growing, plain_short_walk,
    plain_shrinking, ring_steps, some_of,
)
from treesay.machines import Machine
from treesay.rounds import distances, growing, short_walk, shrinking

# 0 to 4 in a row, and 4 goes round by itself; 5 stands apart and steps to 0.
ROW = Machine([[1], [2], [3], [4], [4], [0]])
EVERY = [0, 1, 2, 3, 4, 5]


def chance_sets(machines, seed):
    """Each machine with a few pairs of sets: empty ones, full ones, and some by chance."""
    chance = random.Random(seed)
    told = []
    for machine in machines:
        many = machine.many()
        for through in ([], all_of(machine), sorted(some_of(chance, many)), sorted(some_of(chance, many))):
            for goal in ([], all_of(machine), sorted(some_of(chance, many)), sorted(some_of(chance, many, 2))):
                told.append((machine, through, goal))
    return told


class GrowingTest(unittest.TestCase):
    def test_an_empty_goal(self):
        self.assertEqual(growing(ROW, EVERY, []), [[]])
        self.assertEqual(growing(ROW, [], []), [[]])

    def test_a_full_goal(self):
        self.assertEqual(growing(ROW, EVERY, EVERY), [EVERY])
        self.assertEqual(growing(ROW, [], EVERY), [EVERY])

    def test_through_empty(self):
        self.assertEqual(growing(ROW, [], [2, 3]), [[2, 3]])

    def test_through_full(self):
        self.assertEqual(
            growing(ROW, EVERY, [3]), [[3], [2, 3], [1, 2, 3], [0, 1, 2, 3], [0, 1, 2, 3, 5]]
        )

    def test_apart_from_each_other(self):
        self.assertEqual(growing(ROW, [0, 1], [2]), [[2], [1, 2], [0, 1, 2]])
        self.assertEqual(growing(ROW, [0, 1], [3]), [[3]])
        self.assertEqual(growing(ROW, [5, 0, 2], [3]), [[3], [2, 3]])

    def test_goal_stays_though_it_is_not_in_through(self):
        self.assertEqual(growing(ROW, [0], [1, 3]), [[1, 3], [0, 1, 3]])
        self.assertEqual(growing(ROW, [2], [1, 3]), [[1, 3], [1, 2, 3]])

    def test_several_stands_come_in_one_round(self):
        machine = Machine([[3], [3], [0, 1], [3], [2]])
        self.assertEqual(
            growing(machine, [0, 1, 2, 4], [3]), [[3], [0, 1, 3], [0, 1, 2, 3], [0, 1, 2, 3, 4]]
        )

    def test_the_last_set_is_told_once(self):
        for machine, through, goal in chance_sets(chance_machines("grow end", 40, 8), 1):
            told = growing(machine, through, goal)
            for one, after in zip(told, told[1:]):
                self.assertLess(set(one), set(after))

    def test_against_the_words_of_the_document(self):
        machines = chance_machines("grow", 80, 7) + chance_machines("grow wide", 6, 60, degree=2)
        for machine, through, goal in chance_sets(machines, 2):
            told = growing(machine, through, goal)
            self.assertEqual(told, plain_growing(machine, through, goal))
            for each in told:
                check_set(self, each, machine.many())

    def test_sixty_rounds(self):
        machine = Machine(ring_steps(60))
        told = growing(machine, list(range(60)), [59])
        self.assertEqual(len(told), 60)
        self.assertEqual(told[-1], list(range(60)))
        self.assertEqual(told[7], list(range(52, 60)))


class ShrinkingTest(unittest.TestCase):
    def test_an_empty_set(self):
        self.assertEqual(shrinking(ROW, []), [[]])

    def test_a_full_set(self):
        self.assertEqual(shrinking(ROW, EVERY), [EVERY])

    def test_a_row_shrinks_from_its_end_to_nothing(self):
        self.assertEqual(shrinking(ROW, [0, 1, 2, 3]), [[0, 1, 2, 3], [0, 1, 2], [0, 1], [0], []])

    def test_what_comes_to_a_loop_stays(self):
        self.assertEqual(shrinking(ROW, [0, 2, 3, 4, 5]), [[0, 2, 3, 4, 5], [2, 3, 4, 5], [2, 3, 4]])

    def test_several_stands_go_in_one_round(self):
        machine = Machine([[3], [3], [0, 1], [3]])
        self.assertEqual(shrinking(machine, [0, 1, 2]), [[0, 1, 2], [2], []])
        self.assertEqual(shrinking(machine, [0, 2]), [[0, 2], [2], []])

    def test_a_step_to_itself(self):
        machine = Machine([[0, 1], [1, 2], [0]])
        self.assertEqual(shrinking(machine, [1]), [[1]])
        self.assertEqual(shrinking(machine, [2]), [[2], []])

    def test_fair_sets_are_not_looked_at(self):
        machine = Machine([[0], [0]], None, [[]])
        self.assertEqual(shrinking(machine, [0, 1]), [[0, 1]])

    def test_against_the_words_of_the_document(self):
        for machine in chance_machines("shrink", 60, 6):
            for within in all_sets(all_of(machine)):
                told = shrinking(machine, within)
                self.assertEqual(told, plain_shrinking(machine, within))
                for one, after in zip(told, told[1:]):
                    self.assertLess(set(after), set(one))

    def test_sixty_rounds(self):
        machine = Machine([[stand + 1] for stand in range(59)] + [[59]])
        told = shrinking(machine, list(range(59)))
        self.assertEqual(len(told), 60)
        self.assertEqual(told[-2:], [[0], []])


class DistancesTest(unittest.TestCase):
    def test_of_a_row(self):
        self.assertEqual(distances(ROW, EVERY, [3]), [3, 2, 1, 0, None, 4])
        self.assertEqual(distances(ROW, EVERY, [4]), [4, 3, 2, 1, 0, 5])

    def test_nought_for_each_stand_of_goal_in_through_or_not(self):
        self.assertEqual(distances(ROW, [0, 1, 2], [1, 4]), [1, 0, None, None, 0, None])
        self.assertEqual(distances(ROW, [], EVERY), [0] * 6)

    def test_none_where_no_growing_set_has_the_stand(self):
        self.assertEqual(distances(ROW, EVERY, []), [None] * 6)
        self.assertEqual(distances(ROW, [1, 3], [4]), [None, None, None, 1, 0, None])

    def test_the_shorter_way_counts(self):
        machine = Machine([[1, 3], [2], [3], [3]])
        self.assertEqual(distances(machine, [0, 1, 2], [3]), [1, 2, 1, 0])

    def test_each_is_the_place_of_the_first_growing_set(self):
        for machine, through, goal in chance_sets(chance_machines("away", 60, 9), 3):
            sets = plain_growing(machine, through, goal)
            places = [[place for place, each in enumerate(sets) if stand in each] for stand in all_of(machine)]
            asked = [place[0] if place else None for place in places]
            told = distances(machine, through, goal)
            self.assertEqual(told, asked)
            self.assertTrue(all(away is None or type(away) is int for away in told))


class ShortWalkTest(unittest.TestCase):
    def test_of_a_row(self):
        self.assertEqual(short_walk(ROW, EVERY, [3], 5), [5, 0, 1, 2, 3])
        self.assertEqual(short_walk(ROW, EVERY, [3], 2), [2, 3])

    def test_from_a_stand_of_goal(self):
        self.assertEqual(short_walk(ROW, EVERY, [3], 3), [3])
        self.assertEqual(short_walk(ROW, [], [3, 4], 4), [4])
        self.assertEqual(short_walk(ROW, [0, 1], [0, 1], 0), [0])

    def test_none_where_there_is_no_distance(self):
        self.assertIsNone(short_walk(ROW, EVERY, [3], 4))
        self.assertIsNone(short_walk(ROW, [0, 2], [3], 0))
        self.assertIsNone(short_walk(ROW, [1, 2], [3], 0))
        self.assertIsNone(short_walk(ROW, EVERY, [], 0))

    def test_the_second_stand_is_the_least(self):
        machine = Machine([[3, 1, 2], [4], [4], [4], [4]])
        self.assertEqual(short_walk(machine, [0, 1, 2, 3], [4], 0), [0, 1, 4])
        self.assertEqual(short_walk(machine, [0, 2, 3], [4], 0), [0, 2, 4])

    def test_then_the_third_one_is(self):
        machine = Machine([[2, 1], [6, 5, 4], [3], [7], [7], [7], [7], [7]])
        self.assertEqual(short_walk(machine, list(range(7)), [7], 0), [0, 1, 4, 7])
        self.assertEqual(short_walk(machine, [0, 1, 2, 3, 5, 6], [7], 0), [0, 1, 5, 7])
        self.assertEqual(short_walk(machine, [0, 1, 2, 3], [7], 0), [0, 2, 3, 7])

    def test_the_second_stand_counts_more_than_the_third(self):
        machine = Machine([[3, 4], [5], [5], [2], [1], [5]])
        self.assertEqual(short_walk(machine, [0, 1, 2, 3, 4], [5], 0), [0, 3, 2, 5])

    def test_a_least_stand_from_which_it_is_longer_is_not_taken(self):
        machine = Machine([[1, 2], [0, 1, 2], [3], [3]])
        self.assertEqual(short_walk(machine, [0, 1, 2], [3], 0), [0, 2, 3])

    def test_the_least_stand_of_goal(self):
        machine = Machine([[3, 2, 1], [1], [2], [3]])
        self.assertEqual(short_walk(machine, [0], [2, 3], 0), [0, 2])

    def test_against_all_walks(self):
        for machine, through, goal in chance_sets(chance_machines("short", 60, 6), 4):
            for stand in all_of(machine):
                asked = plain_short_walk(machine, through, goal, stand)
                self.assertEqual(short_walk(machine, through, goal, stand), asked)

    def test_as_many_steps_as_the_distance(self):
        for machine, through, goal in chance_sets(chance_machines("steps", 5, 60, degree=3), 5):
            away = distances(machine, through, goal)
            for stand in all_of(machine):
                walk = short_walk(machine, through, goal, stand)
                self.assertEqual(None if walk is None else len(walk) - 1, away[stand])

    def test_fifty_nine_steps(self):
        self.assertEqual(short_walk(Machine(ring_steps(60)), list(range(60)), [59], 0), list(range(60)))


class HandedInTest(unittest.TestCase):
    def setUp(self):
        self.machine = Machine([[3, 1], [2, 0], [3], [2, 3]], [("a", [2, 0])], [[3, 1]])
        self.through, self.goal = [0, 1, 2], [2, 3]

    def asks(self):
        machine, through, goal = self.machine, self.through, self.goal
        return (
            lambda: growing(machine, through, goal),
            lambda: growing(machine, goal, goal),
            lambda: shrinking(machine, through),
            lambda: shrinking(machine, [0, 2]),
            lambda: distances(machine, through, goal),
            lambda: short_walk(machine, through, goal, 1),
            lambda: short_walk(machine, through, goal, 2),
        )

    def test_it_stays_as_it_is(self):
        fields = fields_of(self.machine)
        for ask in self.asks():
            ask()
            self.assertEqual((self.through, self.goal), ([0, 1, 2], [2, 3]))
            self.assertEqual(fields_of(self.machine), fields)

    def test_what_is_told_is_the_askers_own(self):
        fields = fields_of(self.machine)
        for ask in self.asks():
            check_own(self, ask)
            self.assertEqual((self.through, self.goal), ([0, 1, 2], [2, 3]))
            self.assertEqual(fields_of(self.machine), fields)

    def test_what_is_done_later_to_what_was_handed_in_changes_nothing(self):
        asks = self.asks()
        told = [ask() for ask in asks]
        kept = [ask() for ask in asks]
        self.through.clear()
        self.goal.append(0)
        self.assertEqual(told, kept)


if __name__ == "__main__":
    unittest.main()
