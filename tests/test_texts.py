import random
import re
import unittest

from helpers import OF_ONE, OF_TWO, chance_machines, chance_saying, fields_of, ring_steps
from treesay.errors import NoMark, NoStand, NoStep, NoText
from treesay.machines import Machine
from treesay.sayings import (
    All, Both, EachAlways, EachEver, EachNext, EachTill, Either, Mark, Not, SomeAlways, SomeEver, SomeNext, SomeTill,
)
from treesay.texts import machine_text, read_machine, read_saying, saying_text

TEXT = "from 0 1\nfrom 1 2 0\nfrom 2 2\nmark on 1\nmark done 2 0\nfair 2 1\nfair 0"
WORDS = {
    All: "all", Not: "not", Both: "both", Either: "either", SomeNext: "somenext", EachNext: "eachnext",
    SomeTill: "sometill", EachTill: "eachtill", SomeAlways: "somealways", EachAlways: "eachalways",
    SomeEver: "someever", EachEver: "eachever",
}


SIGNS = [chr(code) for code in range(32, 127)] + ["\n", "\t", "\r"]
NUMBER = "(0|[1-9][0-9]?)"


def fields(machine):
    return (machine.steps, machine.marks, machine.fair)


def ring_rows(many):
    return [f"from {stand} {(stand + 1) % many}" for stand in range(many)]


def same_saying(one, other):
    """Of the same kinds all through: the words alone would not tell a mark from another saying."""
    if type(one) is not type(other) or len(one.within()) != len(other.within()):
        return False
    if isinstance(one, Mark):
        return one.name == other.name
    if isinstance(one, OF_TWO):
        return same_saying(one.left, other.left) and same_saying(one.right, other.right)
    return isinstance(one, All) or same_saying(one.part, other.part)


class ReadMachineTest(unittest.TestCase):
    def refused(self, error, *texts):
        for text in texts:
            with self.assertRaises(error, msg=text) as caught:
                read_machine(text)
            self.assertIs(type(caught.exception), error, text)

    def test_a_machine(self):
        machine = read_machine(TEXT)
        self.assertIs(type(machine), Machine)
        self.assertEqual(
            fields(machine), ([[1], [2, 0], [2]], [("on", [1]), ("done", [2, 0])], [[2, 1], [0]]),
        )

    def test_the_least_machine(self):
        self.assertEqual(fields(read_machine("from 0 0")), ([[0]], [], []))

    def test_marks_alone_and_fair_sets_alone(self):
        self.assertEqual(fields(read_machine("from 0 0\nmark a 0")), ([[0]], [("a", [0])], []))
        self.assertEqual(fields(read_machine("from 0 0\nfair 0\nfair 0")), ([[0]], [], [[0], [0]]))

    def test_without_stands(self):
        self.assertEqual(
            fields(read_machine("from 0 0\nmark a\nmark b\nfair\nfair")), ([[0]], [("a", []), ("b", [])], [[], []]),
        )

    def test_sixty_stands(self):
        machine = read_machine("\n".join(ring_rows(60) + ["mark a 59 0 10 9", "fair 59"]))
        self.assertEqual(fields(machine), (ring_steps(60), [("a", [59, 0, 10, 9])], [[59]]))

    def test_a_mark_called_by_another_word_of_a_text(self):
        names = ("from", "mark", "fair", "none", "round", "a", "abcdefgh")
        rows = [f"mark {name} 0" for name in names]
        machine = read_machine("\n".join(["from 0 0"] + rows))
        self.assertEqual(machine.marks, [(name, [0]) for name in names])

    def test_as_many_marks_and_fair_sets_as_there_may_be(self):
        rows = ["from 0 0"] + [f"mark {name} 0" for name in "abcdefghijkl"] + ["fair 0"] * 6
        self.assertEqual(machine_text(read_machine("\n".join(rows))), "\n".join(rows))

    def test_another_word_ahead(self):
        self.refused(
            NoText, "form 0 0", "From 0 0", "fro 0 0", "fromm 0 0", "0 0", "0", "x", "from 0 0\nx", "from0 0",
            "from 0 0\nmarks a 0", "from 0 0\nmar a", "from 0 0\nfairs 0", "from 0 0\nmark a\nfai", "from 0 0\n0 0",
            "from 0 0\nfair0", "from 0 0\nall", "from 0 0\n# why",
        )

    def test_a_blank_too_many(self):
        self.refused(
            NoText, " from 0 0", "from  0 0", "from 0  0", "from 0 0 ", "from 0 ", "from 0 0\n mark a 0",
            "from 0 0\nmark  a 0", "from 0 0\nmark a  0", "from 0 0\nmark a 0 ", "from 0 0\nmark a ",
            "from 0 0\n fair 0", "from 0 0\nfair  0", "from 0 0\nfair 0 ", "from 0 0\nfair ", "from 0 0 \nfair 0",
            "from 0 0\nmark ", "from 0 0\nmark  0",
        )

    def test_a_blank_of_another_sort(self):
        self.refused(NoText, "from\t0 0", "from 0\t0", "from 0 0\t", "from 0 0\r\nfair 0", "from 0 0\rfair 0")

    def test_a_row_without_signs(self):
        self.refused(
            NoText, "", "\n", " ", "from 0 0\n", "\nfrom 0 0", "from 0 0\n\nmark a 0", "from 0 0\n\nfair 0",
            "from 0 0\nfair 0\n", "from 0 0\n ", "from 0 1\n\nfrom 1 0", "\n\n", "mark a\n", "fair\n",
        )

    def test_a_stand_whose_from_is_not_in_its_place(self):
        self.refused(
            NoText, "from 1 0", "from 1 0\nfrom 0 0", "from 0 0\nfrom 0 0", "from 0 0\nfrom 2 0", "from 0 1\nfrom 2 1",
            "from 1 1", "from", "from\nfrom 1 0", "from 0 0\nfrom", "from x 0", "from 0 1\nfrom 1 0\nfrom 1 0",
            "from 10 0", "from 0 0\nfrom 01 0",
        )

    def test_a_row_in_another_order(self):
        self.refused(
            NoText, "mark a 0\nfrom 0 0", "fair 0\nfrom 0 0", "from 0 0\nfair 0\nmark a 0", "fair 0\nmark a 0",
            "from 0 1\nmark a 0\nfrom 1 0", "from 0 1\nfair\nfrom 1 0", "from 0 0\nmark a\nfair\nmark b",
        )

    def test_a_mark_without_a_name(self):
        self.refused(NoText, "from 0 0\nmark", "mark", "from 0 0\nmark\nfair", "from 0 0\nmark a\nmark")

    def test_stands_not_written_by_one_or_two_figures(self):
        for word in "00 01 09 000 100 123 -0 -1 +0 x 1x x1 0x 1. 1, _ 1_0".split():
            self.refused(NoText, f"from 0 {word}", f"from 0 0 {word}", f"from {word} 0")
            self.refused(NoText, f"from 0 0\nmark a {word}", f"from 0 0\nmark a 0 {word}")
            self.refused(NoText, f"from 0 0\nfair {word}", f"from 0 0\nfair 0 {word}")
        self.refused(NoText, "from 0 " + "1" * 30, "from 0 None", "from 0 True")

    def test_each_sign_that_is_no_figure(self):
        for sign in SIGNS:
            if not sign.isdigit():
                self.refused(NoText, f"from 0 {sign}", f"from {sign} 0", f"from 0 1{sign}", f"from 0 {sign}1")
                self.refused(NoText, f"from 0 0\nmark a {sign}", f"from 0 0\nfair {sign}", f"{sign}from 0 0")

    def test_figures_of_other_letters(self):
        self.refused(NoText, "from 0 \u0660", "from 0 \u00b2", "from \u0660 0", "from 0 0\nfair \uff10")

    def test_so_written_but_no_machine(self):
        self.refused(NoStand, "mark a", "mark a 0", "fair", "fair 0", "mark a\nfair", "mark a 7\nmark a 7", "mark all")
        self.refused(NoStand, "from 0 1", "from 0 99", "from 0 0 1", "from 0 0 0", "from 0 1\nfrom 1 0 2")
        self.refused(NoStep, "from 0", "from 0 0\nfrom 1", "from 0 1\nfrom 1\nfrom 2 2", "from 0\nmark a\nfair")
        for name in ("all", "not", "both", "either", "somenext", "eachnext", "sometill", "eachtill", "someever"):
            self.refused(NoMark, f"from 0 0\nmark {name} 0")
        for name in ("eachever", "somealways", "eachalways", "abcdefghi", "A", "a1", "0", "01", "-", "a-b", "a_", "a~"):
            self.refused(NoMark, f"from 0 0\nmark {name}")
        self.refused(NoMark, "from 0 0\nmark a 0\nmark a", "from 0 0\nmark a\nmark b\nmark a 0")
        self.refused(NoStand, "from 0 0\nmark a 1", "from 0 0\nmark a 0 0", "from 0 0\nmark a\nmark b 10")
        self.refused(NoStand, "from 0 0\nfair 1", "from 0 0\nfair 0 0", "from 0 0\nfair 0\nfair 99")

    def test_too_many_stands(self):
        self.refused(NoStand, "\n".join(ring_rows(61)), "\n".join(ring_rows(61)[:-1] + ["from 60"]))
        self.refused(NoStand, "\n".join(ring_rows(100)))
        # The stand 100 can not be written by two figures.
        self.refused(NoText, "\n".join(ring_rows(101)), "\n".join(ring_rows(100) + ["from 100"]))

    def test_what_is_due_first(self):
        self.refused(NoStand, "from 0 7\nfrom 1", "from 0 0\nmark a 1\nmark A", "mark A\nfair 0 0")
        self.refused(NoStep, "from 0\nfrom 1 7", "from 0\nmark A\nfair 7")
        self.refused(NoStand, "from 0 0\nfrom 1 7\nmark A")
        self.refused(NoMark, "from 0 0\nmark A 7", "from 0 0\nmark A\nfair 7", "from 0 0\nmark a\nmark a 7")
        self.refused(NoStand, "from 0 0\nmark a 7\nmark a")

    def test_no_text_ahead_of_all_else(self):
        rows = {
            NoStand: "from 0 7", NoStep: "from 0", NoMark: "from 0 0\nmark A",
        }
        for error, text in rows.items():
            self.refused(error, text)
            self.refused(
                NoText, text + "\n", text + "\nfair x", text + "\nfair 00", text + "\nx", text + "\nfair 0 ",
                text + "\nfair\nmark b", text + "\nmark", text + "\nfair 100", text + "\nfair\nfrom 1 0",
            )
        self.refused(NoText, "mark a\nfair 0 x", "mark a x", "mark", "fair x", "\n".join(ring_rows(61) + ["fair x"]))

    def test_a_text_refused_and_another_read_behind_it(self):
        self.refused(NoText, TEXT + "\n")
        self.assertEqual(machine_text(read_machine(TEXT)), TEXT)


def is_written(text):
    """Whether a text is written as a machine's text must be, read off the document once more."""
    rows = f"(?P<froms>(from {NUMBER}( {NUMBER})*\n)*)(mark [^ \n]+( {NUMBER})*\n)*(fair( {NUMBER})*\n)*"
    found = re.fullmatch(rows, text + "\n")
    if not found or not text:
        return False
    return all(row.split(" ")[1] == str(stand) for stand, row in enumerate(found["froms"].splitlines()))


def edited(chance, text, signs):
    place = chance.randrange(len(text) + 1)
    return text[:place] + chance.choice(signs) + text[place + chance.randint(0, 2):]


class ChanceMachineTextTest(unittest.TestCase):
    def test_texts_with_something_changed(self):
        chance = random.Random(113)
        answers = {}
        signs = ["", " ", "\n", "0", "1", "7", "10", "a", "A", "from ", "mark ", "fair", "\nfair 0", "\nmark a"]
        for machine in chance_machines(114, 60, 4):
            for number in range(60):
                text = edited(chance, machine_text(machine), signs)
                try:
                    told = machine_text(read_machine(text))
                except (NoText, NoStand, NoStep, NoMark) as error:
                    told = type(error)
                self.assertEqual(told == NoText, not is_written(text), text)
                if isinstance(told, str):
                    self.assertEqual(told, text)
                answers[told if isinstance(told, type) else "read"] = True
        self.assertEqual(set(answers), {NoText, NoStand, NoStep, NoMark, "read"})


class MachineTextTest(unittest.TestCase):
    def test_a_machine(self):
        machine = Machine([[1], [2, 0], [2]], [("on", [1]), ("done", [2, 0])], [[2, 1], [0]])
        self.assertEqual(machine_text(machine), TEXT)

    def test_without_marks_and_fair_sets(self):
        self.assertEqual(machine_text(Machine([[0]])), "from 0 0")

    def test_marks_and_fair_sets_without_stands(self):
        self.assertEqual(machine_text(Machine([[0]], [("a", [])], [[], []])), "from 0 0\nmark a\nfair\nfair")

    def test_lists_as_they_were_handed_in(self):
        machine = Machine([[2, 0, 1], [1, 0], [1, 2, 0]], [("z", [2, 0]), ("a", [1, 0, 2])], [[2, 1, 0], [1, 2]])
        self.assertEqual(
            machine_text(machine),
            "from 0 2 0 1\nfrom 1 1 0\nfrom 2 1 2 0\nmark z 2 0\nmark a 1 0 2\nfair 2 1 0\nfair 1 2",
        )

    def test_sixty_stands(self):
        self.assertEqual(machine_text(Machine(ring_steps(60))), "\n".join(ring_rows(60)))

    def test_written_and_read_again(self):
        for machine in chance_machines(111, 60, 14):
            kept = fields_of(machine)
            text = machine_text(machine)
            again = read_machine(text)
            self.assertEqual(fields(again), fields(machine))
            self.assertEqual(machine_text(again), text)
            self.assertEqual(fields_of(machine), kept)

    def test_read_and_changed_later(self):
        machine = read_machine(TEXT)
        machine.next_of(1).append(7)
        self.assertEqual(machine_text(machine), TEXT)
        self.assertEqual(machine_text(machine), machine_text(read_machine(TEXT)))


class ReadSayingTest(unittest.TestCase):
    def refused(self, *texts):
        for text in texts:
            with self.assertRaises(NoText, msg=text) as caught:
                read_saying(text)
            self.assertIs(type(caught.exception), NoText, text)

    def test_all_and_marks(self):
        self.assertIs(type(read_saying("all")), All)
        for name in ("a", "z", "on", "abcdefgh", "zzzzzzzz"):
            saying = read_saying(name)
            self.assertIs(type(saying), Mark)
            self.assertEqual(saying.name, name)

    def test_a_mark_called_by_a_word_that_may_be_a_name(self):
        names = (
            "from mark fair holds at why alive fold class back show yes no nowhere round none step walk loop rank "
            "plain some each next till always ever alls nots al bothh eithers sometil eachnex"
        )
        for name in names.split():
            self.assertTrue(same_saying(read_saying(name), Mark(name)), name)
            self.assertTrue(same_saying(read_saying(f"not {name}"), Not(Mark(name))), name)
            self.assertTrue(same_saying(read_saying(f"both {name} all"), Both(Mark(name), All())), name)
            self.assertEqual(read_machine(f"from 0 0\nmark {name} 0").marks, [(name, [0])])

    def test_each_word(self):
        self.assertEqual(len(WORDS), 12)
        for kind, word in WORDS.items():
            if kind in OF_ONE:
                self.assertTrue(same_saying(read_saying(f"{word} a"), kind(Mark("a"))), word)
                self.assertTrue(same_saying(read_saying(f"{word} {word} all"), kind(kind(All()))), word)
                self.refused(word, f"{word} a b", f"{word} {word}")
            elif kind in OF_TWO:
                self.assertTrue(same_saying(read_saying(f"{word} a b"), kind(Mark("a"), Mark("b"))), word)
                left, right = kind(Mark("a"), All()), kind(Mark("c"), Mark("d"))
                self.assertTrue(same_saying(read_saying(f"{word} {word} a all {word} c d"), kind(left, right)), word)
                self.refused(word, f"{word} a", f"{word} a b c", f"{word} {word} a b", f"{word} a {word} b")

    def test_nested(self):
        saying = read_saying("eachtill both on not done either somenext all someever a")
        wanted = EachTill(
            Both(Mark("on"), Not(Mark("done"))), Either(SomeNext(All()), SomeEver(Mark("a"))),
        )
        self.assertTrue(same_saying(saying, wanted))

    def test_written_and_read_again(self):
        chance = random.Random(112)
        for number in range(300):
            saying = chance_saying(chance, chance.randint(1, 8))
            text = saying_text(saying)
            self.assertEqual(text, " ".join(saying.words()))
            self.assertTrue(same_saying(read_saying(text), saying), text)
            self.assertEqual(saying_text(read_saying(text)), text)

    def test_twenty_deep(self):
        deep = " ".join(["not"] * 19 + ["a"])
        self.assertEqual(read_saying(deep).words(), deep.split(" "))
        self.assertEqual(len(read_saying(deep).within()), 20)
        leaning = " ".join(["both"] * 19 + ["a"] * 20)
        self.assertEqual(saying_text(read_saying(leaning)), leaning)
        other = " ".join(["either a"] * 19 + ["all"])
        self.assertEqual(saying_text(read_saying(other)), other)
        self.refused(" ".join(["not"] * 20), leaning + " a", leaning[:-2], other + " all", other[:-4])

    def test_two_hundred_parts(self):
        full = ["a"]
        for deep in range(6):
            full.append(f"sometill {full[-1]} {full[-1]}")
        text = f"either {full[6]} both {full[5]} not not not not not not not a"
        self.assertEqual(len(read_saying(text).within()), 200)
        self.assertEqual(saying_text(read_saying(text)), text)
        self.refused(text + " a", text[:-2], "not " + text + " a", text.replace("both", "not"))

    def test_a_word_without_signs(self):
        self.refused("", " ", "  ", "a ", " a", "not  a", "both a  b", "both a b ", " all", "all ", "both  a", "not ")

    def test_a_word_with_another_sign(self):
        self.refused(
            "A", "a1", "1", "0", "a-b", "a_b", "-a", "a.", "(a)", "not A", "not(a)", "both a B", "a,b", "Not a", "ALL",
            "a~", "not a\n", "\na", "not\na", "not\ta", "a\r", "a'", "a\"", "\\", "{", "`", "/", ":", "@", "[",
        )
        self.refused("\u00e9", "\u00df", "\u00aa", "not \u0430")
        for sign in SIGNS:
            if not ("a" <= sign <= "z"):
                self.refused(sign, f"a{sign}", f"{sign}a", f"not a{sign}a", f"both {sign} a")

    def test_a_word_with_more_than_eight_letters(self):
        self.refused("abcdefghi", "not abcdefghi", "both a abcdefghi", "somealwayss a", "eachalway a", "somealway a")
        self.refused("xsomealways a", "eachalwayss a", "both somealwayss a", "a" * 100)

    def test_too_few_words(self):
        self.refused("not", "both a", "both", "both not a", "sometill a not", "eachtill all", "somealways", "not not")
        self.refused("either both a b", "either a both b", "not both a", "eachever", "someever not")

    def test_too_many_words(self):
        self.refused("a b", "all all", "all a", "a all", "not a b", "both a b c", "a not b", "all not a", "not a not b")
        self.refused("somenext a a", "both a b not c", "a both b c", "eachnext a both")

    def test_a_wrong_word_anywhere(self):
        words = "eachtill both on not done either somenext all someever a".split()
        for place in range(len(words)):
            for wrong in ("", "X", "abcdefghi", "0"):
                self.refused(" ".join(words[:place] + [wrong] + words[place + 1:]))
                self.refused(" ".join(words[:place] + [wrong] + words[place:]))
            self.refused(" ".join(words[:place]))
            self.refused(" ".join(words[place:] + ["a"]))
            self.refused(" ".join(words + words[place:]))

    def test_a_text_refused_and_another_read_behind_it(self):
        self.refused("both a")
        self.assertEqual(saying_text(read_saying("both a b")), "both a b")
        self.refused("both a b c")
        self.assertEqual(saying_text(read_saying("both a b")), "both a b")


def ends_of(words, place):
    """The place behind the saying that begins at a place, or None: from the first word to the last one."""
    if place >= len(words):
        return None
    parts = [kind in OF_TWO for kind, word in WORDS.items() if word == words[place] and kind is not All]
    if not parts:
        return place + 1 if words[place] == "all" or re.fullmatch("[a-z]{1,8}", words[place]) else None
    end = ends_of(words, place + 1)
    return ends_of(words, end) if parts[0] and end is not None else end


class ChanceSayingTextTest(unittest.TestCase):
    def test_texts_with_something_changed(self):
        chance = random.Random(115)
        signs = ["", " ", "a", "A", "not ", "both ", " all", "somealways ", "eachtill "]
        read = 0
        for number in range(3000):
            text = edited(chance, saying_text(chance_saying(chance, 5)), signs)
            words = text.split(" ")
            if ends_of(words, 0) == len(words):
                self.assertEqual(saying_text(read_saying(text)), text)
                read += 1
            else:
                self.assertRaises(NoText, read_saying, text)
        self.assertTrue(300 < read < 2700, read)


class SayingTextTest(unittest.TestCase):
    def test_each_kind(self):
        for kind, word in WORDS.items():
            if kind in OF_ONE:
                self.assertEqual(saying_text(kind(Mark("a"))), f"{word} a")
            elif kind in OF_TWO:
                self.assertEqual(saying_text(kind(Mark("a"), All())), f"{word} a all")
        self.assertEqual((saying_text(All()), saying_text(Mark("on"))), ("all", "on"))

    def test_the_saying_stays_as_it_is(self):
        saying = Both(Not(Mark("a")), Mark("b"))
        kept = dict(vars(saying)), saying.words(), saying.within()
        self.assertEqual(saying_text(saying), saying_text(saying))
        self.assertEqual((vars(saying), saying.words(), saying.within()), kept)


if __name__ == "__main__":
    unittest.main()
