"""Meanings: the stands at which a saying holds."""

from treesay.fairness import alive, core
from treesay.rounds import comes_to, stepping_to
from treesay.sayings import (
    All, Both, EachAlways, EachNext, EachTill, Either, Mark, Not, SomeAlways, SomeEver, SomeNext, SomeTill,
)
from treesay.stands import everywhere, others, shared, together, without


def some_next(machine, living, part):
    # Only where a walk comes to an alive stand can it go on as a fair one.
    return stepping_to(machine, everywhere(machine), shared(living, part))


def some_till(machine, living, left, right):
    return comes_to(machine, left, shared(living, right))


def spoilers(machine, living, left, right):
    return without(shared(living, others(machine, right)), left)


def each_till(machine, living, left, right):
    # A walk fails where left ends ahead of right, or where right never comes.
    waiting = others(machine, right)
    broken = comes_to(machine, waiting, spoilers(machine, living, left, right))
    return others(machine, together(broken, core(machine, waiting)))


def meaning_over_walks(machine, living, saying, sets):
    if isinstance(saying, SomeNext):
        return some_next(machine, living, sets[0])
    if isinstance(saying, EachNext):
        return others(machine, some_next(machine, living, others(machine, sets[0])))
    if isinstance(saying, SomeTill):
        return some_till(machine, living, sets[0], sets[1])
    if isinstance(saying, EachTill):
        return each_till(machine, living, sets[0], sets[1])
    if isinstance(saying, SomeAlways):
        return core(machine, sets[0])
    if isinstance(saying, EachAlways):
        return others(machine, some_till(machine, living, everywhere(machine), others(machine, sets[0])))
    if isinstance(saying, SomeEver):
        return some_till(machine, living, everywhere(machine), sets[0])
    # What is left is EachEver.
    return each_till(machine, living, everywhere(machine), sets[0])


def meaning(machine, living, saying, sets):
    # The kind tells, not the word: a mark may be called by the word of another saying.
    if isinstance(saying, All):
        return everywhere(machine)
    if isinstance(saying, Mark):
        return machine.marked(saying.name)
    if isinstance(saying, Not):
        return others(machine, sets[0])
    if isinstance(saying, Both):
        return shared(sets[0], sets[1])
    if isinstance(saying, Either):
        return together(sets[0], sets[1])
    return meaning_over_walks(machine, living, saying, sets)


def table_among(machine, living, saying):
    told = []
    sets = []
    for part in saying.parts:
        told.extend(table_among(machine, living, part))
        sets.append(told[-1])
    told.append(meaning(machine, living, saying, sets))
    return told


def table(machine, saying):
    return table_among(machine, alive(machine), saying)


def holds(machine, saying):
    return table(machine, saying)[-1]
