"""Texts: machines and sayings read from texts and written as texts."""

from treesay.errors import NoText
from treesay.machines import Machine, is_name
from treesay.sayings import (
    All, Both, EachAlways, EachEver, EachNext, EachTill, Either, Mark, Not, SomeAlways, SomeEver, SomeNext, SomeTill,
)

FIGURES = "0123456789"
FIGURES_OF_STANDS = 2

# How many parts stand behind each word of a saying; every other word is a mark's name.
PARTS_BEHIND = {
    "all": 0,
    "not": 1, "somenext": 1, "eachnext": 1, "somealways": 1, "eachalways": 1, "someever": 1, "eachever": 1,
    "both": 2, "either": 2, "sometill": 2, "eachtill": 2,
}


def is_number(word, most):
    if len(word) > 1 and word[0] == "0":
        return False
    return 1 <= len(word) <= most and all([sign in FIGURES for sign in word])


def read_number(word, most):
    if not is_number(word, most):
        raise NoText(f"{word!r} is no number of 1 to {most} figures")
    return int(word)


def read_stands(words):
    return [read_number(word, FIGURES_OF_STANDS) for word in words]


def read_from(stand, words):
    stands = read_stands(words)
    if stands[:1] != [stand]:
        raise NoText(f"the steps of stand {stand} are not in their place")
    return stands[1:]


def read_mark(words):
    if len(words) == 0:
        raise NoText("a mark without a name")
    return (words[0], read_stands(words[1:]))


def rows_behind(rows, head):
    return [words[1:] for words in rows if words[0] == head]


def read_rows(text):
    rows = [row.split(" ") for row in text.split("\n")]
    for words in rows:
        if "" in words:
            raise NoText("a row without signs, or a blank too many")
    return rows


def check_heads(rows):
    heads = [words[0] for words in rows]
    ordered = []
    for head in ("from", "mark", "fair"):
        ordered.extend([word for word in heads if word == head])
    if heads != ordered:
        raise NoText("the rows do not begin with from, then mark, then fair")


def read_machine(text):
    rows = read_rows(text)
    check_heads(rows)
    steps = [read_from(stand, words) for stand, words in enumerate(rows_behind(rows, "from"))]
    marks = [read_mark(words) for words in rows_behind(rows, "mark")]
    fair = [read_stands(words) for words in rows_behind(rows, "fair")]
    return Machine(steps, marks, fair)


def row_text(words, stands):
    return " ".join(words + [str(stand) for stand in stands])


def machine_text(machine):
    rows = [row_text(["from", str(stand)], targets) for stand, targets in enumerate(machine.steps)]
    rows.extend([row_text(["mark", name], stands) for name, stands in machine.marks])
    rows.extend([row_text(["fair"], stands) for stands in machine.fair])
    return "\n".join(rows)


def check_words(words):
    for word in words:
        if word not in PARTS_BEHIND and not is_name(word):
            raise NoText(f"{word!r} is no word of a saying")


def saying_of_one(word, part):
    if word == "not":
        return Not(part)
    if word == "somenext":
        return SomeNext(part)
    if word == "eachnext":
        return EachNext(part)
    if word == "somealways":
        return SomeAlways(part)
    if word == "eachalways":
        return EachAlways(part)
    if word == "someever":
        return SomeEver(part)
    # What is left is eachever.
    return EachEver(part)


def saying_of_two(word, left, right):
    if word == "both":
        return Both(left, right)
    if word == "either":
        return Either(left, right)
    if word == "sometill":
        return SomeTill(left, right)
    # What is left is eachtill.
    return EachTill(left, right)


def saying_of(word, parts):
    if len(parts) == 2:
        return saying_of_two(word, parts[0], parts[1])
    if len(parts) == 1:
        return saying_of_one(word, parts[0])
    if word == "all":
        return All()
    return Mark(word)


def read_saying(text):
    words = text.split(" ")
    check_words(words)
    # From the last word to the first one: so the parts of each saying are read ahead of it.
    ready = []
    for word in reversed(words):
        needed = PARTS_BEHIND.get(word, 0)
        if len(ready) < needed:
            raise NoText(f"too few words behind {word}")
        ready = [saying_of(word, ready[:needed])] + ready[needed:]
    if len(ready) > 1:
        raise NoText("too many words")
    return ready[0]


def saying_text(saying):
    return " ".join(saying.words())
