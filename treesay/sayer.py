"""The sayer: it is told rows of text about a machine, and answers each with a text."""

from treesay.errors import NoFold, NoStand, NoText
from treesay.fairness import alive
from treesay.folding import class_numbers, folded
from treesay.meanings import holds
from treesay.texts import machine_text, read_machine, read_number, read_saying
from treesay.whys import whys

FIGURES_IN_ROWS = 30


def first_word(text):
    return text.partition(" ")[0]


def rest_of(text):
    return text.partition(" ")[2]


def numbers_text(numbers):
    return " ".join([str(number) for number in numbers])


def set_text(stands):
    if len(stands) == 0:
        return "nowhere"
    return numbers_text(stands)


def truth_text(truth):
    if truth:
        return "yes"
    return "no"


def missed_text(missed):
    if missed is None:
        return "none"
    return str(missed)


def reason_words(reason):
    word = reason[0]
    if word == "step":
        return [word, str(reason[1])]
    if word == "walk":
        return [word, numbers_text(reason[1])]
    if word == "loop":
        return [word, numbers_text(reason[1]), "round", numbers_text(reason[2])]
    if word == "rank":
        return [word, str(reason[1]), missed_text(reason[2])]
    return [word]


def check_stand(machine, stand):
    many = machine.many()
    if stand >= many:
        raise NoStand(f"{stand} is none of the {many} stands")


def class_answer(machine, text):
    stand = read_number(text, FIGURES_IN_ROWS)
    check_stand(machine, stand)
    return str(class_numbers(machine)[stand])


def at_answer(machine, text):
    stand = read_number(first_word(text), FIGURES_IN_ROWS)
    saying = read_saying(rest_of(text))
    check_stand(machine, stand)
    return truth_text(stand in holds(machine, saying))


def why_answer(machine, text):
    stand = read_number(first_word(text), FIGURES_IN_ROWS)
    saying = read_saying(rest_of(text))
    check_stand(machine, stand)
    told = whys(machine, saying)[stand]
    return " ".join([truth_text(told[0])] + reason_words(told[1]))


def long_answer(machine, row):
    word = first_word(row)
    if word == "holds":
        return set_text(holds(machine, read_saying(rest_of(row))))
    if word == "at":
        return at_answer(machine, rest_of(row))
    if word == "why":
        return why_answer(machine, rest_of(row))
    if word == "class":
        return class_answer(machine, rest_of(row))
    raise NoText(f"{row!r} is none of the rows")


class Sayer:
    def __init__(self, text):
        self.machine = read_machine(text)
        self.unfolded = []

    def say(self, row):
        if row == "alive":
            return set_text(alive(self.machine))
        if row == "fold":
            return self.fold()
        if row == "back":
            return self.back()
        if row == "show":
            return machine_text(self.machine)
        return long_answer(self.machine, row)

    def fold(self):
        self.unfolded.append(self.machine)
        self.machine = folded(self.machine)
        return str(self.machine.many())

    def back(self):
        if len(self.unfolded) == 0:
            raise NoFold("there is no fold to take back")
        self.machine = self.unfolded.pop()
        return str(self.machine.many())
