"""Whys: for each stand a reason that can be looked at step by step."""

from treesay.fairness import alive, loop_of, ranks
from treesay.meanings import holds, meaning, spoilers
from treesay.rounds import distances, walk_down
from treesay.sayings import EachAlways, EachEver, EachNext, EachTill, SomeAlways, SomeEver, SomeNext, SomeTill
from treesay.stands import everywhere, flags, others, shared, without


def step_reason(targets):
    if len(targets) == 0:
        return ("none",)
    return ("step", targets[0])


def step_reasons(machine, goal):
    return [step_reason(shared(machine.next_of(stand), goal)) for stand in everywhere(machine)]


def walk_reason(walk):
    if walk is None:
        return ("shut",)
    return ("walk", walk)


def walk_reasons(machine, through, goal):
    away = distances(machine, through, goal)
    return [walk_reason(walk_down(machine, away, stand)) for stand in everywhere(machine)]


def loop_reason(loop):
    return ("loop", loop[0], loop[1])


def rank_reason(ranked):
    return ("rank", ranked[0], ranked[1])


def staying_reasons(machine, within):
    ranked = ranks(machine, within)
    told = []
    for stand in everywhere(machine):
        if stand not in within:
            told.append(("out",))
        elif ranked[stand] is None:
            told.append(loop_reason(loop_of(machine, within, stand)))
        else:
            told.append(rank_reason(ranked[stand]))
    return told


def each_till_reasons(machine, living, left, right, holding):
    waiting = others(machine, right)
    away = distances(machine, waiting, spoilers(machine, living, left, right))
    ranked = ranks(machine, shared(shared(living, waiting), holding))
    told = []
    for stand in everywhere(machine):
        if stand in right:
            told.append(("here",))
        elif stand not in living:
            told.append(("dead",))
        elif stand in holding:
            told.append(rank_reason(ranked[stand]))
        elif away[stand] is not None:
            told.append(("walk", walk_down(machine, away, stand)))
        else:
            told.append(loop_reason(loop_of(machine, waiting, stand)))
    return told


def reasons(machine, living, saying, sets, holding):
    if isinstance(saying, SomeNext):
        return step_reasons(machine, shared(living, sets[0]))
    if isinstance(saying, EachNext):
        return step_reasons(machine, without(living, sets[0]))
    if isinstance(saying, SomeTill):
        return walk_reasons(machine, sets[0], shared(living, sets[1]))
    if isinstance(saying, SomeEver):
        return walk_reasons(machine, everywhere(machine), shared(living, sets[0]))
    if isinstance(saying, EachAlways):
        return walk_reasons(machine, everywhere(machine), without(living, sets[0]))
    if isinstance(saying, SomeAlways):
        return staying_reasons(machine, sets[0])
    if isinstance(saying, EachTill):
        return each_till_reasons(machine, living, sets[0], sets[1], holding)
    if isinstance(saying, EachEver):
        return each_till_reasons(machine, living, everywhere(machine), sets[0], holding)
    return [("plain",) for stand in everywhere(machine)]


def whys(machine, saying):
    living = alive(machine)
    sets = [holds(machine, part) for part in saying.parts]
    holding = meaning(machine, living, saying, sets)
    return list(zip(flags(machine, holding), reasons(machine, living, saying, sets, holding)))


def lives(machine):
    # Every stand is in the set, so that none of them is told to be out.
    return staying_reasons(machine, everywhere(machine))
