import random
import unittest

from helpers import chance_machines, chance_saying, ring_steps, spread_machines
from treesay.errors import NoFold, NoMark, NoStand, NoStep, NoText, SayError
from treesay.fairness import alive
from treesay.folding import classes, folded
from treesay.machines import Machine
from treesay.meanings import holds
from treesay.sayer import Sayer
from treesay.texts import machine_text, read_saying, saying_text
from treesay.whys import whys

# From 0 one comes by 1 to 2, which goes round, or to 3, which goes round until it goes on to 4, which goes round.
STEPS = "from 0 3 1\nfrom 1 2\nfrom 2 2\nfrom 3 4 3\nfrom 4 4"
MARKS = "\nmark a 3 0 1\nmark b 2\nmark none"
TEXT = STEPS + MARKS
FAIR = TEXT + "\nfair 4 3\nfair 3 2"
# Six stands in a ring, every second one marked: they fold into two.
RING = "\n".join(f"from {stand} {(stand + 1) % 6}" for stand in range(6)) + "\nmark odd 5 1 3\nfair 4 2 0"
FOLDED_RING = "from 0 1\nfrom 1 0\nmark odd 1\nfair 0"


def stands_text(stands):
    return " ".join(str(stand) for stand in stands) if stands else "nowhere"


def why_text(told):
    """The row of a truth and its reason, written by the forms of the document."""
    truth, reason = told
    words = ["yes" if truth else "no", reason[0]]
    if reason[0] == "step":
        words.append(str(reason[1]))
    elif reason[0] == "walk":
        words.extend(str(stand) for stand in reason[1])
    elif reason[0] == "loop":
        words.extend([str(stand) for stand in reason[1]] + ["round"] + [str(stand) for stand in reason[2]])
    elif reason[0] == "rank":
        words.extend([str(reason[1]), "none" if reason[2] is None else str(reason[2])])
    return " ".join(words)


class Case(unittest.TestCase):
    def says(self, sayer, rows):
        for row, answer in rows:
            told = sayer.say(row)
            self.assertIs(type(told), str)
            self.assertEqual(told, answer, row)

    def refused(self, sayer, error, *rows):
        for row in rows:
            with self.assertRaises(error, msg=row) as caught:
                sayer.say(row)
            self.assertIs(type(caught.exception), error, row)


class MakingTest(unittest.TestCase):
    def test_refused_as_a_machines_text_is(self):
        rows = {
            "": NoText, "from 0 0\n": NoText, "from 0  0": NoText, "from 1 0": NoText, "show": NoText,
            "from 0 0\nfair 0\nmark a 0": NoText, "mark a 0": NoStand, "fair": NoStand, "from 0 1": NoStand,
            "from 0 0\nfair 1": NoStand, "from 0": NoStep, "from 0 0\nmark all 0": NoMark, "from 0\nfair x": NoText,
            "from 0 0\nmark a\nmark a": NoMark,
        }
        for text, error in rows.items():
            with self.assertRaises(error, msg=text) as caught:
                Sayer(text)
            self.assertIs(type(caught.exception), error)

    def test_sixty_stands(self):
        text = machine_text(Machine(ring_steps(60), [("a", [59])]))
        self.assertEqual(Sayer(text).say("show"), text)
        self.assertEqual(Sayer(text).say("fold"), "60")


class RowsTest(Case):
    def test_holds(self):
        self.says(Sayer(TEXT), [
            ("holds all", "0 1 2 3 4"), ("holds a", "0 1 3"), ("holds b", "2"), ("holds none", "nowhere"),
            ("holds zzz", "nowhere"), ("holds not a", "2 4"), ("holds sometill a b", "0 1 2"),
            ("holds eachever b", "1 2"), ("holds somealways a", "0 3"), ("holds eachalways not b", "3 4"),
            ("holds not all", "nowhere"), ("holds both a somenext not a", "1 3"),
        ])

    def test_holds_of_more_than_ten_stands(self):
        sayer = Sayer("\n".join(f"from {stand} {stand}" for stand in range(12)))
        self.assertEqual(sayer.say("holds all"), "0 1 2 3 4 5 6 7 8 9 10 11")
        self.assertEqual(sayer.say("alive"), "0 1 2 3 4 5 6 7 8 9 10 11")

    def test_at(self):
        self.says(Sayer(TEXT), [
            ("at 0 all", "yes"), ("at 0 a", "yes"), ("at 2 a", "no"), ("at 4 not a", "yes"), ("at 4 zzz", "no"),
            ("at 0 eachever b", "no"), ("at 1 eachever b", "yes"), ("at 3 both a somealways a", "yes"),
        ])
        sayer = Sayer(machine_text(Machine(ring_steps(60), [("a", [59])])))
        self.says(sayer, [("at 59 a", "yes"), ("at 58 a", "no"), ("at 58 eachnext a", "yes")])

    def test_alive(self):
        self.says(Sayer(TEXT), [("alive", "0 1 2 3 4")])
        self.says(Sayer(FAIR), [("alive", "0 3")])
        self.says(Sayer(TEXT + "\nfair"), [("alive", "nowhere")])

    def test_show(self):
        for text in (TEXT, FAIR, RING, FOLDED_RING, "from 0 0", "from 0 0\nmark b\nmark a 0\nfair\nfair 0"):
            self.says(Sayer(text), [("show", text), ("show", text)])

    def test_class(self):
        self.says(Sayer(RING), [(f"class {stand}", str(stand % 2)) for stand in range(6)])
        self.says(Sayer(TEXT), [(f"class {stand}", str(stand)) for stand in range(5)])
        sayer = Sayer(machine_text(Machine(ring_steps(60), [("a", [59])])))
        self.says(sayer, [("class 59", "59"), ("class 10", "10")])

    def test_marks_called_by_the_words_of_rows(self):
        names = "holds at why alive fold class back show from mark fair yes no nowhere round none".split()
        text = "from 0 1\nfrom 1 1\n" + "\n".join(f"mark {name} 1" for name in names)
        for name in names:
            self.says(Sayer(text), [
                (f"holds {name}", "1"), (f"at 0 {name}", "no"), (f"at 1 {name}", "yes"),
                (f"why 0 somenext {name}", "yes step 1"), (f"why 1 {name}", "yes plain"), ("show", text),
            ])


class WhyTest(Case):
    def test_plain(self):
        self.says(Sayer(TEXT), [
            ("why 0 all", "yes plain"), ("why 0 a", "yes plain"), ("why 2 a", "no plain"), ("why 2 not a", "yes plain"),
            ("why 0 both a b", "no plain"), ("why 2 either a b", "yes plain"), ("why 0 zzz", "no plain"),
            ("why 0 not all", "no plain"),
        ])

    def test_steps(self):
        self.says(Sayer(TEXT), [
            ("why 3 somenext not a", "yes step 4"), ("why 0 somenext b", "no none"),
            ("why 3 eachnext a", "no step 4"), ("why 1 eachnext b", "yes none"),
        ])

    def test_walks(self):
        self.says(Sayer(TEXT), [
            ("why 0 sometill a b", "yes walk 0 1 2"), ("why 2 sometill a b", "yes walk 2"),
            ("why 3 sometill a b", "no shut"), ("why 0 someever b", "yes walk 0 1 2"), ("why 4 someever b", "no shut"),
            ("why 0 eachalways not b", "no walk 0 1 2"), ("why 4 eachalways not b", "yes shut"),
        ])
        self.says(Sayer("from 0 1\nfrom 1 1\nmark b 1"), [("why 0 eachtill zzz b", "no walk 0")])

    def test_loops(self):
        self.says(Sayer(TEXT), [
            ("why 3 somealways a", "yes loop 3 round 3"), ("why 1 somealways not zzz", "yes loop 1 2 round 2"),
            ("why 3 eachtill all b", "no loop 3 round 3"),
        ])
        self.says(Sayer("from 0 1\nfrom 1 0"), [("why 0 somealways all", "yes loop 0 round 0 1")])
        sayer = Sayer("from 0 1\nfrom 1 2\nfrom 2 1\nfair 2")
        self.assertEqual(sayer.say("why 0 somealways all"), "yes loop 0 1 round 1 2")

    def test_ranks(self):
        told = Sayer(TEXT).say("why 1 somealways a")
        self.assertRegex(told, r"\Ano rank [0-9]+ none\Z")
        sayer = Sayer("from 0 0\nmark a 0\nfair 0\nfair")
        self.assertRegex(sayer.say("why 0 somealways a"), r"\Ano rank [0-9]+ 1\Z")
        told = Sayer("from 0 0 1\nfrom 1 1\nmark b 1\nfair 1").say("why 0 eachever b")
        self.assertRegex(told, r"\Ayes rank [0-9]+ 0\Z")

    def test_out_here_and_dead(self):
        self.says(Sayer(TEXT), [
            ("why 2 somealways a", "no out"), ("why 2 eachtill a b", "yes here"), ("why 2 eachever b", "yes here"),
        ])
        self.says(Sayer(FAIR), [
            ("why 1 eachever a", "yes here"), ("why 2 eachtill b a", "yes dead"), ("why 4 eachever b", "yes dead"),
        ])

    def test_against_the_whys(self):
        chance = random.Random(121)
        words = set()
        for machine in chance_machines(122, 40, 9) + spread_machines(123, 20, 4, 3):
            sayer = Sayer(machine_text(machine))
            for number in range(25):
                saying = chance_saying(chance, 4)
                text = saying_text(saying)
                told = whys(machine, saying)
                held = holds(machine, saying)
                self.assertEqual(sayer.say(f"holds {text}"), stands_text(held))
                for stand in range(machine.many()):
                    self.assertEqual(sayer.say(f"at {stand} {text}"), "yes" if stand in held else "no")
                    self.assertEqual(sayer.say(f"why {stand} {text}"), why_text(told[stand]))
                    words.add(told[stand][1][0])
            self.assertEqual(sayer.say("alive"), stands_text(alive(machine)))
        self.assertEqual(words, set("plain step none walk shut loop out rank here dead".split()))


class FoldTest(Case):
    def test_fold_and_back(self):
        self.says(Sayer(RING), [
            ("show", RING), ("fold", "2"), ("show", FOLDED_RING), ("holds all", "0 1"), ("at 1 odd", "yes"),
            ("class 0", "0"), ("class 1", "1"), ("back", "6"), ("show", RING), ("holds odd", "1 3 5"),
        ])

    def test_fold_again(self):
        sayer = Sayer(RING)
        self.says(sayer, [("fold", "2"), ("fold", "2"), ("fold", "2"), ("show", FOLDED_RING)])
        self.says(sayer, [("back", "2"), ("show", FOLDED_RING), ("back", "2"), ("back", "6"), ("show", RING)])
        self.refused(sayer, NoFold, "back")
        self.says(sayer, [("show", RING), ("fold", "2"), ("back", "6")])
        self.refused(sayer, NoFold, "back", "back")

    def test_each_back_takes_back_the_last_fold_that_was_not_taken_back(self):
        sayer = Sayer(RING)
        self.says(sayer, [("fold", "2"), ("fold", "2"), ("back", "2"), ("fold", "2"), ("back", "2"), ("back", "6")])
        self.refused(sayer, NoFold, "back")

    def test_nothing_to_take_back(self):
        sayer = Sayer(TEXT)
        self.refused(sayer, NoFold, "back", "back")
        self.says(sayer, [("show", TEXT), ("holds a", "0 1 3")])

    def test_a_machine_that_does_not_fold(self):
        # The folded machine's lists are rising, and the machine ahead comes back as it was handed in.
        risen = TEXT.replace("0 3 1", "0 1 3").replace("3 4 3", "3 3 4").replace("a 3 0 1", "a 0 1 3")
        self.says(Sayer(TEXT), [("fold", "5"), ("show", risen), ("back", "5"), ("show", TEXT)])

    def test_answers_behind_fold_are_those_of_the_folded_machine(self):
        chance = random.Random(124)
        for machine in spread_machines(125, 25, 4, 3) + chance_machines(126, 10, 5):
            sayer = Sayer(machine_text(machine))
            again = folded(machine)
            told = classes(machine)
            for number, stands in enumerate(told):
                for stand in stands:
                    self.assertEqual(sayer.say(f"class {stand}"), str(number))
            self.assertEqual(sayer.say("fold"), str(again.many()))
            self.assertEqual(sayer.say("show"), machine_text(again))
            self.assertEqual(sayer.say("alive"), stands_text(alive(again)))
            for turn in range(10):
                saying = chance_saying(chance, 4)
                text = saying_text(saying)
                self.assertEqual(sayer.say(f"holds {text}"), stands_text(holds(again, saying)))
                for number in range(again.many()):
                    self.assertEqual(sayer.say(f"why {number} {text}"), why_text(whys(again, saying)[number]))
            for number in range(again.many()):
                self.assertEqual(sayer.say(f"class {number}"), str(number))
            self.refused(sayer, NoStand, f"at {again.many()} all", f"class {again.many()}", f"why {again.many()} all")
            self.assertEqual(sayer.say("back"), str(machine.many()))
            self.assertEqual(sayer.say("show"), machine_text(machine))


NO_ROWS = (
    "", " ", "  ", "\n", "x", "hold a", "holdsa", "Holds a", "HOLDS a", "say a", "alive ", " alive", "alive 0",
    "alive all", "Alive", "alive\n", "fold ", " fold", "fold 0", "folds", "fold\n", "back ", " back", "back 1",
    "backs", "back\n", "show ", " show", "show 0", "shows", "show\n", "holds", "holds ", "holds  a", "holds a ",
    " holds a", "holds a\n", "holds\na", "holds a b", "holds not", "holds both a", "holds A", "holds a1",
    "holds abcdefghi", "holds 0", "holds not  a", "holds\ta", "at", "at ", "at 0", "at 0 ", "at  0 a", "at 0  a",
    "at 0 a ", " at 0 a", "at a", "at a 0", "at 0 a b", "at 0 not", "at all", "at 0 0 a", "at 0,1 a", "at 0 A",
    "at\n0 a", "at 0\na", "why", "why ", "why 0", "why 0 ", "why  0 a", "why 0  a", "why 0 a ", " why 0 a", "why a",
    "why a 0", "why 0 a b", "why 0 both a", "why all", "why 0 abcdefghi", "class", "class ", "class  0", "class 0 ",
    " class 0", "class a", "class 0 1", "class all", "class 0 all", "class 0\n", "Class 0", "at0 a", "why0 a",
    "class0", "yes", "no", "nowhere", "from 0 0", "mark a 0", "fair 0", "all", "a", "not a", "round", "alive\nalive",
    "fold\nback",
)
NO_STANDS = (
    "00", "01", "05", "007", "-1", "-0", "+1", "1x", "x", "0x1", "1.", "1.0", "1_0", "0" * 30, "1" * 31, "1" + "0" * 30,
    "9" * 31, "0" * 31, "9" * 200, "1" * 5000, "\u0661", "\u00b2",
)
STANDS_BEYOND = ("5", "6", "9", "10", "59", "60", "61", "99", "100", "1" * 29, "1" + "0" * 29, "9" * 30)


class RefusalsTest(Case):
    def unchanged(self, text, folds, error, rows):
        """A sayer that refused some rows answers as one that was never asked them."""
        sayer, other = Sayer(text), Sayer(text)
        for one in (sayer, other):
            for fold in range(folds):
                one.say("fold")
        for row in rows:
            self.refused(sayer, error, row)
            self.assertEqual(sayer.say("show"), other.say("show"), row)
        rows = ["alive", "holds a", "why 0 someever b", "class 0", "fold", "show", "back", "show"] + ["back"] * folds
        for row in rows:
            self.assertEqual(sayer.say(row), other.say(row))
        self.refused(sayer, NoFold, "back")

    def test_what_is_none_of_the_rows(self):
        self.unchanged(TEXT, 0, NoText, NO_ROWS)
        self.unchanged(FAIR, 2, NoText, NO_ROWS)

    def test_what_is_no_stand_at_all(self):
        rows = []
        for word in NO_STANDS:
            rows.extend([f"at {word} a", f"why {word} a", f"class {word}", f"at {word} all", f"why {word} not b"])
        self.unchanged(TEXT, 0, NoText, rows)
        self.unchanged(TEXT, 1, NoText, rows)
        signs = [chr(code) for code in range(32, 127) if not chr(code).isdigit()]
        self.unchanged(TEXT, 0, NoText, [f"at {sign} a" for sign in signs] + [f"class 1{sign}" for sign in signs])

    def test_a_stand_that_the_machine_has_not(self):
        rows = []
        for word in STANDS_BEYOND:
            rows.extend([f"at {word} a", f"why {word} a", f"class {word}", f"at {word} all", f"why {word} not b"])
        self.unchanged(TEXT, 0, NoStand, rows)
        self.unchanged(TEXT, 1, NoStand, rows)

    def test_no_stand_behind_the_sayings_no_text(self):
        rows = []
        for word in STANDS_BEYOND + NO_STANDS:
            for saying in ("", "A", "not", "both a", "a b", "abcdefghi", " a", "a ", "somealway a"):
                rows.extend([f"at {word} {saying}", f"why {word} {saying}"])
            rows.extend([f"at {word}", f"why {word}", f"class {word} ", f"class {word} a"])
        self.unchanged(TEXT, 0, NoText, rows)

    def test_back_with_nothing_to_take_back(self):
        self.unchanged(TEXT, 0, NoFold, ["back", "back"])

    def test_stands_of_the_machine_behind_fold_and_back(self):
        sayer = Sayer(RING)
        self.says(sayer, [("at 5 odd", "yes"), ("class 5", "1"), ("fold", "2")])
        self.refused(sayer, NoStand, "at 5 odd", "why 2 odd", "class 2")
        self.says(sayer, [("at 1 odd", "yes"), ("back", "6"), ("at 5 odd", "yes"), ("class 5", "1")])
        self.refused(sayer, NoStand, "at 6 odd")

    def test_each_is_a_refusal(self):
        for row in ("x", "at 9 a", "back"):
            self.refused(Sayer(TEXT), {"x": NoText, "back": NoFold}.get(row, NoStand), row)
            with self.assertRaises(SayError):
                Sayer(TEXT).say(row)


class InTurnTest(Case):
    def test_two_sayers(self):
        one, other = Sayer(RING), Sayer(TEXT)
        self.says(one, [("fold", "2")])
        self.says(other, [("show", TEXT), ("holds a", "0 1 3")])
        self.refused(other, NoFold, "back")
        self.says(one, [("show", FOLDED_RING)])
        self.says(other, [("fold", "5")])
        self.says(one, [("back", "6"), ("show", RING)])
        self.says(other, [("back", "5"), ("show", TEXT)])

    def test_two_sayers_of_one_text(self):
        one, other = Sayer(RING), Sayer(RING)
        self.says(one, [("fold", "2"), ("fold", "2")])
        self.says(other, [("show", RING), ("class 4", "0")])
        self.refused(other, NoFold, "back")
        self.says(other, [("fold", "2"), ("back", "6")])
        self.says(one, [("back", "2"), ("back", "6"), ("show", RING)])

    def test_the_same_asked_again(self):
        chance = random.Random(127)
        for machine in chance_machines(128, 10, 6):
            sayer = Sayer(machine_text(machine))
            rows = ["alive", "show", "class 0"]
            for number in range(6):
                text = saying_text(chance_saying(chance, 4))
                rows.extend([f"holds {text}", f"at 0 {text}", f"why 0 {text}"])
            first = [sayer.say(row) for row in rows]
            self.assertEqual([sayer.say(row) for row in reversed(rows)], first[::-1])
            sayer.say("fold")
            for row in rows:
                sayer.say(row)
            sayer.say("back")
            self.assertEqual([sayer.say(row) for row in rows], first)

    def test_large_machine_and_saying(self):
        chance = random.Random(129)
        steps = [chance.sample(range(60), 4) for stand in range(60)]
        marks = [(name, chance.sample(range(60), 30)) for name in "abcdefghijkl"]
        machine = Machine(steps, marks, [chance.sample(range(60), 40) for number in range(6)])
        sayer = Sayer(machine_text(machine))
        text = "eachtill both a not b either somenext c sometill d eachever not eachnext e"
        for deep in range(2):
            text = f"either somealways not {text} both eachalways {text} someever {text}"
        self.assertLessEqual(len(text.split(" ")), 200)
        self.refused(sayer, NoText, f"holds {text} a", f"holds not {text} a", f"at 0 {text[:-2]}")
        saying = read_saying(text)
        self.assertEqual(sayer.say(f"holds {text}"), stands_text(holds(machine, saying)))
        told = whys(machine, saying)
        for stand in (0, 31, 59):
            self.assertEqual(sayer.say(f"why {stand} {text}"), why_text(told[stand]))


if __name__ == "__main__":
    unittest.main()
