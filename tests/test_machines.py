import copy
import unittest

from treesay.errors import NoMark, NoStand, NoStep, SayError
from treesay.machines import Machine

SAYING_WORDS = (
    "all", "not", "both", "either", "somenext", "eachnext", "sometill", "eachtill", "someever", "eachever",
)
LETTERS = "abcdefghijklmnopqrstuvwxyz"
MANY = 7
# It has neither 0 nor 1, so that False and True are like nothing ahead of them.
RIGHT = [5, 2, 6, 3]
NO_STANDS = (
    -1, -2, -(10 ** 29), MANY, MANY + 1, 59, 60, 10 ** 29, 10 ** 30 - 1,
    True, False, None, "", "0", "2", "a", "stand",
)


def ring(many):
    return [[(stand + 1) % many] for stand in range(many)]


def lists_with(wrong):
    """RIGHT with a wrong thing in the place of each of its stands, and ahead of and behind each."""
    told = [[wrong]]
    for place in range(len(RIGHT)):
        told.append(RIGHT[:place] + [wrong] + RIGHT[place + 1:])
    for place in range(len(RIGHT) + 1):
        told.append(RIGHT[:place] + [wrong] + RIGHT[place:])
    return told


def lists_that_repeat():
    told = []
    for place in range(1, len(RIGHT) + 1):
        for ahead in RIGHT[:place]:
            told.append(RIGHT[:place] + [ahead] + RIGHT[place:])
    return told


def wrong_lists():
    told = lists_that_repeat()
    for wrong in NO_STANDS:
        told.extend(lists_with(wrong))
    return told


class MachineTest(unittest.TestCase):
    def refused(self, error, steps, marks=None, fair=None):
        with self.assertRaises(SayError) as caught:
            Machine(steps, marks, fair)
        self.assertIs(type(caught.exception), error)


class HowManyTest(MachineTest):
    def test_from_one_to_sixty_stands_are_made(self):
        for many in range(1, 61):
            self.assertEqual(Machine(ring(many)).many(), many)

    def test_no_stand_and_more_than_sixty_are_refused(self):
        self.refused(NoStand, [])
        for many in (61, 62, 100):
            self.refused(NoStand, ring(many))

    def test_a_whole_machine_of_sixty_stands_that_step_to_all(self):
        machine = Machine([list(range(60)) for stand in range(60)])
        for stand in range(60):
            self.assertEqual(machine.next_of(stand), list(range(60)))
            self.assertEqual(machine.before(stand), list(range(60)))


class WrongStandsTest(MachineTest):
    def test_in_the_list_of_each_stand(self):
        for stand in range(MANY):
            for wrong in wrong_lists():
                with self.subTest(stand=stand, wrong=wrong):
                    steps = ring(MANY)
                    steps[stand] = wrong
                    self.refused(NoStand, steps)

    def test_in_the_list_of_each_mark(self):
        for place in range(3):
            for wrong in wrong_lists():
                with self.subTest(place=place, wrong=wrong):
                    marks = [("a", [0]), ("b", []), ("c", [1, 0])]
                    marks[place] = (marks[place][0], wrong)
                    self.refused(NoStand, ring(MANY), marks)

    def test_in_each_fair_set(self):
        for place in range(3):
            for wrong in wrong_lists():
                with self.subTest(place=place, wrong=wrong):
                    fair = [[0], [], [1, 0]]
                    fair[place] = wrong
                    self.refused(NoStand, ring(MANY), None, fair)
                    self.refused(NoStand, ring(MANY), [("a", [0])], fair)

    def test_the_bound_of_stands_is_how_many_there_are(self):
        for many in (1, 2, 59, 60):
            last = many - 1
            Machine([[last]] * many, [("a", [last])], [[last]])
            self.refused(NoStand, [[many]] * many)
            self.refused(NoStand, [[last]] * many, [("a", [many])])
            self.refused(NoStand, [[last]] * many, None, [[many]])

    def test_truths_are_refused_where_their_numbers_would_be_stands(self):
        for truth in (True, False):
            self.refused(NoStand, [[truth], [0]])
            self.refused(NoStand, [[1], [0]], [("a", [truth])])
            self.refused(NoStand, [[1], [0]], None, [[truth]])

    def test_the_same_stand_in_two_lists_is_no_repeat(self):
        machine = Machine([[0, 1], [0, 1]], [("a", [1]), ("b", [1])], [[1], [1]])
        self.assertEqual(machine.next_of(0), [0, 1])
        self.assertEqual(machine.next_of(1), [0, 1])
        self.assertEqual([machine.marked("a"), machine.marked("b")], [[1], [1]])
        self.assertEqual([machine.fair_at(0), machine.fair_at(1)], [[1], [1]])


class NoStepTest(MachineTest):
    def test_an_empty_list_of_any_stand(self):
        for many in (1, 2, 5, 60):
            for stand in range(many):
                steps = ring(many)
                steps[stand] = []
                self.refused(NoStep, steps)


class MarkNamesTest(MachineTest):
    def refused_name(self, name):
        with self.subTest(name=name):
            self.refused(NoMark, [[0]], [(name, [0])])
            self.refused(NoMark, [[0]], [("ahead", []), (name, [])])
            self.refused(NoMark, [[0]], [(name, []), ("behind", [])])

    def made_name(self, name):
        with self.subTest(name=name):
            machine = Machine([[0]], [(name, [0])])
            self.assertEqual(machine.marked(name), [0])
            self.assertEqual(machine.marks, [(name, [0])])

    def test_without_a_sign(self):
        self.refused_name("")

    def test_of_one_to_eight_letters(self):
        for long in range(1, 9):
            self.made_name("abcdefgh"[:long])
        for sign in LETTERS:
            self.made_name(sign)
            self.made_name(sign * 8)

    def test_of_more_than_eight_letters(self):
        for long in (9, 10, 11, 20):
            self.refused_name("a" * long)
        self.refused_name("somealways")
        self.refused_name("eachalways")

    def test_another_sign_at_any_place(self):
        others = [chr(code) for code in range(32, 127) if chr(code) not in LETTERS]
        others.extend(["\n", "\t", "\r", "\x00", "\u00e9", "\u00df", "\u0430", "\uff41"])
        for other in others:
            for word in ("", "bc", "abcdefg"):
                for place in range(len(word) + 1):
                    self.refused_name(word[:place] + other + word[place:])

    def test_each_of_the_ten_words(self):
        self.assertEqual(len(SAYING_WORDS), 10)
        for word in SAYING_WORDS:
            self.refused_name(word)

    def test_names_that_are_near_to_the_ten_words(self):
        for word in SAYING_WORDS:
            if word[:-1] not in SAYING_WORDS:
                self.made_name(word[:-1])
            self.made_name(word[1:])
            if len(word) < 8:
                self.made_name(word + "s")

    def test_other_words_of_the_document(self):
        for word in (
            "mark", "from", "fair", "none", "some", "each", "next", "till", "ever", "always", "holds", "at", "why",
            "alive", "dead", "fold", "class", "back", "show", "yes", "no", "nowhere", "round", "step", "walk", "loop",
            "rank", "plain", "shut", "out", "here", "answer", "machine", "stand", "saying", "true", "false",
        ):
            self.made_name(word)

    def test_a_name_that_stands_ahead(self):
        self.refused(NoMark, [[0]], [("a", [0]), ("a", [0])])
        self.refused(NoMark, [[0]], [("a", [0]), ("a", [])])
        self.refused(NoMark, [[0]], [("a", []), ("b", []), ("a", [])])
        self.refused(NoMark, [[0]], [("a", []), ("b", []), ("c", []), ("b", [])])

    def test_what_is_no_text_is_no_name(self):
        for name in (None, True, 0, 7):
            self.refused_name(name)


class LeftOutTest(MachineTest):
    def test_marks_and_fair_sets_left_out(self):
        for machine in (Machine([[0]]), Machine([[0]], None), Machine([[0]], None, None), Machine([[0]], [], [])):
            self.assertEqual(machine.steps, [[0]])
            self.assertEqual(machine.marks, [])
            self.assertEqual(machine.fair, [])
            self.assertEqual(machine.marked("a"), [])

    def test_none_for_one_of_both(self):
        machine = Machine([[0]], None, [[0]])
        self.assertEqual((machine.marks, machine.fair), ([], [[0]]))
        machine = Machine([[0]], [("a", [0])], None)
        self.assertEqual((machine.marks, machine.fair), ([("a", [0])], []))

    def test_arguments_by_name(self):
        machine = Machine(fair=[[0]], marks=[("a", [0])], steps=[[0]])
        self.assertEqual((machine.steps, machine.marks, machine.fair), ([[0]], [("a", [0])], [[0]]))

    def test_what_is_left_out_is_not_shared(self):
        one = Machine([[0]])
        other = Machine([[0]])
        self.assertIsNot(one.marks, other.marks)
        self.assertIsNot(one.fair, other.fair)

    def test_marks_and_fair_sets_without_stands(self):
        machine = Machine([[0]], [("a", []), ("b", [0]), ("c", [])], [[], [0], []])
        self.assertEqual([machine.marked(name) for name in "abc"], [[], [0], []])
        self.assertEqual([machine.fair_at(number) for number in range(3)], [[], [0], []])

    def test_as_many_marks_and_fair_sets_as_there_may_be(self):
        marks = [(letter, [0]) for letter in LETTERS[:12]]
        machine = Machine([[0]], marks, [[0]] * 6)
        self.assertEqual(machine.marks, marks)
        self.assertEqual(machine.fair, [[0]] * 6)


class DueFirstTest(MachineTest):
    def test_how_many_ahead_of_all_else(self):
        self.refused(NoStand, [], [("A", [])], [[9]])
        self.refused(NoStand, [[]] * 61)
        self.refused(NoStand, [[]] + ring(61)[1:], [("A", [])])
        self.refused(NoStand, ring(61), [("", [])])

    def test_stand_against_stand(self):
        self.refused(NoStep, [[], [9]])
        self.refused(NoStand, [[9], []])
        self.refused(NoStep, [[0], [], [9]])
        self.refused(NoStand, [[0], [2, 2], []])
        self.refused(NoStep, [[0], [], [True]])
        self.refused(NoStand, [[None], [], [0]])
        self.refused(NoStand, ring(60)[:58] + [["x"], []])
        self.refused(NoStep, ring(60)[:58] + [[], ["x"]])

    def test_stands_ahead_of_marks(self):
        self.refused(NoStand, [[1]], [("A", [])])
        self.refused(NoStep, [[]], [("A", [])])
        self.refused(NoStep, [[]], [("a", [1])])
        self.refused(NoStep, [[0], [0], []], [("all", [9]), ("a", []), ("a", [])])
        self.refused(NoStand, [[0], [0], [1, 1]], [("all", [0])])

    def test_stands_ahead_of_fair_sets(self):
        self.refused(NoStep, [[]], None, [[1]])
        self.refused(NoStep, [[0], []], [("a", [0])], [[None]])

    def test_mark_against_mark(self):
        self.refused(NoStand, [[0]], [("a", [1]), ("B", [0])])
        self.refused(NoMark, [[0]], [("A", [0]), ("b", [1])])
        self.refused(NoStand, [[0]], [("a", [0, 0]), ("a", [0])])
        self.refused(NoMark, [[0]], [("a", [0]), ("a", [0]), ("b", [1])])
        self.refused(NoStand, [[0]], [("a", [0]), ("b", [1]), ("a", [0])])

    def test_a_name_ahead_of_its_stands(self):
        for name in ("", "A", "abcdefghi", "all", "eachever"):
            self.refused(NoMark, [[0]], [(name, [1])])
            self.refused(NoMark, [[0]], [("a", [0]), (name, [0, 0])])
        self.refused(NoMark, [[0]], [("a", [0]), ("a", [True])])

    def test_marks_ahead_of_fair_sets(self):
        self.refused(NoMark, [[0]], [("A", [0])], [[1]])
        self.refused(NoMark, [[0]], [("a", []), ("a", [])], [[None]])


class FieldsTest(MachineTest):
    def handed_in(self):
        steps = [[2, 0, 1], [1], [3, 0], [2, 1]]
        marks = [("z", [3, 1]), ("b", []), ("mark", [2, 0, 1])]
        fair = [[3, 0], [], [1, 2, 0]]
        return steps, marks, fair

    def answers(self, machine):
        stands = range(machine.many())
        return (
            machine.many(),
            [machine.next_of(stand) for stand in stands],
            [machine.before(stand) for stand in stands],
            [machine.marked(name) for name in ("z", "b", "mark", "other")],
            [machine.fair_at(number) for number in range(3)],
            copy.deepcopy((machine.steps, machine.marks, machine.fair)),
        )

    def test_fields_have_what_was_handed_in_as_it_was_ordered(self):
        machine = Machine(*self.handed_in())
        self.assertEqual((machine.steps, machine.marks, machine.fair), self.handed_in())

    def test_fields_are_lists_of_lists_and_of_tuples(self):
        machine = Machine(*self.handed_in())
        for field in (machine.steps, machine.marks, machine.fair):
            self.assertIs(type(field), list)
        for inner in machine.steps + machine.fair:
            self.assertIs(type(inner), list)
        for mark in machine.marks:
            self.assertIs(type(mark), tuple)
            self.assertEqual([type(thing) for thing in mark], [str, list])

    def test_lists_are_copied_to_the_bottom(self):
        steps, marks, fair = self.handed_in()
        machine = Machine(steps, marks, fair)
        self.assertIsNot(machine.steps, steps)
        self.assertIsNot(machine.marks, marks)
        self.assertIsNot(machine.fair, fair)
        for mine, theirs in zip(machine.steps + machine.fair, steps + fair):
            self.assertIsNot(mine, theirs)
        for mine, theirs in zip(machine.marks, marks):
            self.assertIsNot(mine[1], theirs[1])

    def test_lists_emptied_behind_the_making(self):
        steps, marks, fair = self.handed_in()
        machine = Machine(steps, marks, fair)
        ahead = self.answers(machine)
        for inner in steps + fair + [stands for name, stands in marks]:
            inner.clear()
        self.assertEqual(self.answers(machine), ahead)
        for outer in (steps, marks, fair):
            outer.clear()
        self.assertEqual(self.answers(machine), ahead)

    def test_lists_changed_behind_the_making(self):
        steps, marks, fair = self.handed_in()
        machine = Machine(steps, marks, fair)
        ahead = self.answers(machine)
        for inner in steps + fair + [stands for name, stands in marks]:
            inner.append(3)
            inner[0] = 2
            inner.reverse()
        steps.append([0])
        marks.insert(0, ("other", [0]))
        fair.reverse()
        self.assertEqual(self.answers(machine), ahead)

    def test_one_list_handed_in_at_several_places(self):
        stands = [1, 0]
        machine = Machine([stands, stands], [("a", stands), ("b", stands)], [stands, stands])
        stands.clear()
        self.assertEqual(machine.steps, [[1, 0], [1, 0]])
        self.assertEqual(machine.marks, [("a", [1, 0]), ("b", [1, 0])])
        self.assertEqual(machine.fair, [[1, 0], [1, 0]])
        self.assertEqual(machine.before(0), [0, 1])

    def test_nothing_that_is_handed_in_is_changed(self):
        given = self.handed_in()
        machine = Machine(*given)
        self.answers(machine)
        self.assertEqual(given, self.handed_in())

    def test_what_is_refused_is_not_changed_either(self):
        for steps, marks, fair in (
            ([[1, 0], []], [("b", [1, 0])], [[1, 0]]),
            ([[1, 0], [1, 0]], [("b", [1, 0]), ("b", [1, 0])], [[1, 0]]),
            ([[1, 0], [1, 0]], [("b", [1, 0])], [[1, 0], [1, 1]]),
        ):
            given = (steps, marks, fair)
            kept = copy.deepcopy(given)
            with self.assertRaises(SayError):
                Machine(*given)
            self.assertEqual(given, kept)


class QuestionsTest(MachineTest):
    def example(self):
        return Machine(
            [[3, 1, 0], [2], [3, 0, 2], [0]],
            [("b", [3, 0, 2]), ("a", [1]), ("none", [])],
            [[2, 0], [3, 2, 1, 0], []],
        )

    def all_told(self, machine):
        told = []
        for stand in range(4):
            told.append(machine.next_of(stand))
            told.append(machine.before(stand))
        for name in ("a", "b", "none", "other"):
            told.append(machine.marked(name))
        for number in range(3):
            told.append(machine.fair_at(number))
        return told

    def test_many(self):
        many = self.example().many()
        self.assertEqual(many, 4)
        self.assertIs(type(many), int)

    def test_next_of_is_rising(self):
        machine = self.example()
        self.assertEqual([machine.next_of(stand) for stand in range(4)], [[0, 1, 3], [2], [0, 2, 3], [0]])

    def test_before_is_rising(self):
        machine = self.example()
        self.assertEqual([machine.before(stand) for stand in range(4)], [[0, 2, 3], [0], [1, 2], [0, 2]])

    def test_before_of_a_stand_to_which_nothing_steps(self):
        machine = Machine([[1], [1]])
        self.assertEqual(machine.before(0), [])
        self.assertEqual(machine.before(1), [0, 1])

    def test_marked_is_rising(self):
        machine = self.example()
        self.assertEqual(machine.marked("b"), [0, 2, 3])
        self.assertEqual(machine.marked("a"), [1])
        self.assertEqual(machine.marked("none"), [])

    def test_marked_of_a_name_that_the_machine_has_not(self):
        for name in ("c", "", "all", "B", "ab", "bb", "somealways", "a b", "no such name at all"):
            self.assertEqual(self.example().marked(name), [])
        self.assertEqual(Machine([[0]]).marked("a"), [])

    def test_fair_at_is_rising(self):
        machine = self.example()
        self.assertEqual([machine.fair_at(number) for number in range(3)], [[0, 2], [0, 1, 2, 3], []])

    def test_whatever_the_order_in_which_lists_were_handed_in(self):
        many = 11
        for factor in range(1, many):
            turned = [(factor * place) % many for place in range(many)]
            machine = Machine([list(turned) for stand in range(many)], [("a", turned)], [turned])
            for told in (machine.next_of(4), machine.before(4), machine.marked("a"), machine.fair_at(0)):
                self.assertEqual(told, list(range(many)))

    def test_next_and_before_are_told_of_the_same_steps(self):
        for many in (1, 2, 3, 7, 30, 60):
            steps = []
            for stand in range(many):
                steps.append(list(dict.fromkeys((stand * stand + place * 7 + 3) % many for place in range(5))))
            machine = Machine(steps)
            for one in range(many):
                self.assertEqual(machine.next_of(one), sorted(steps[one]))
                self.assertEqual(machine.before(one), [other for other in range(many) if one in steps[other]])

    def test_what_is_told_is_a_list(self):
        for told in self.all_told(self.example()):
            self.assertIs(type(told), list)

    def test_each_told_list_is_new(self):
        machine = self.example()
        kept = copy.deepcopy(self.all_told(machine))
        fields = copy.deepcopy((machine.steps, machine.marks, machine.fair))
        for spoil in (list.clear, list.reverse, lambda told: told.append(0), lambda told: told.insert(0, "x")):
            for told in self.all_told(machine):
                spoil(told)
            self.assertEqual(self.all_told(machine), kept)
            self.assertEqual((machine.steps, machine.marks, machine.fair), fields)

    def test_asking_later_changes_nothing_that_was_told(self):
        machine = self.example()
        told = self.all_told(machine)
        kept = copy.deepcopy(told)
        for again in self.all_told(machine):
            again.clear()
        self.assertEqual(told, kept)

    def test_two_machines_beside_one_another(self):
        steps = [[3, 1, 0], [2], [3, 0, 2], [0]]
        marks = [("a", [3, 0])]
        fair = [[2, 0]]
        one = Machine(steps, marks, fair)
        steps[0].append(2)
        marks[0][1].append(1)
        marks.append(("b", [1]))
        fair[0].append(1)
        other = Machine(steps, marks, fair)
        for told in (other.next_of(0), other.before(0), other.marked("a"), other.marked("b"), other.fair_at(0)):
            told.clear()
        self.assertEqual((one.next_of(0), other.next_of(0)), ([0, 1, 3], [0, 1, 2, 3]))
        self.assertEqual((one.before(2), other.before(2)), ([1, 2], [0, 1, 2]))
        self.assertEqual((one.marked("a"), other.marked("a")), ([0, 3], [0, 1, 3]))
        self.assertEqual((one.marked("b"), other.marked("b")), ([], [1]))
        self.assertEqual((one.fair_at(0), other.fair_at(0)), ([0, 2], [0, 1, 2]))

    def test_machines_made_of_the_fields_of_a_machine(self):
        one = self.example()
        other = Machine(one.steps, one.marks, one.fair)
        self.assertEqual(self.all_told(other), self.all_told(one))
        self.assertIsNot(other.steps[0], one.steps[0])
        self.assertIsNot(other.marks[0][1], one.marks[0][1])
        self.assertIsNot(other.fair[0], one.fair[0])


if __name__ == "__main__":
    unittest.main()
