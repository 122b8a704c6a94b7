"""Folding: the classes of stands of which the same is said, the machine of the classes, and what parts two stands."""

from treesay.machines import Machine
from treesay.stands import everywhere, unshared


def numbered(keys):
    # By the order in which the keys first come: so the numbers of classes follow their least stands,
    # and the same classes always bear the same numbers.
    known = {}
    for key in keys:
        known.setdefault(key, len(known))
    return [known[key] for key in keys]


def fair_numbers(machine, stand):
    return [number for number, stands in enumerate(machine.fair) if stand in stands]


def first_numbers(machine):
    keys = []
    for stand in everywhere(machine):
        keys.append((tuple(machine.names_at(stand)), tuple(fair_numbers(machine, stand))))
    return numbered(keys)


def numbers_of(numbers, stands):
    return sorted(set([numbers[stand] for stand in stands]))


def finer_numbers(machine, numbers):
    keys = []
    for stand in everywhere(machine):
        keys.append((numbers[stand], tuple(numbers_of(numbers, machine.next_of(stand)))))
    return numbered(keys)


def numberings(machine):
    # Only stands that must be parted are parted in a round, so the classes at the end are the fewest.
    told = [first_numbers(machine)]
    finer = finer_numbers(machine, told[0])
    while finer != told[-1]:
        told.append(finer)
        finer = finer_numbers(machine, finer)
    return told


def class_numbers(machine):
    return numberings(machine)[-1]


def stands_of_numbers(numbers):
    told = [[] for number in range(max(numbers) + 1)]
    for stand, number in enumerate(numbers):
        told[number].append(stand)
    return told


def classes(machine):
    return stands_of_numbers(class_numbers(machine))


def folded(machine):
    numbers = class_numbers(machine)
    # All stands of a class step to the same classes: one of them tells it for all.
    steps = [numbers_of(numbers, machine.next_of(stands[0])) for stands in stands_of_numbers(numbers)]
    marks = [(name, numbers_of(numbers, stands)) for name, stands in machine.marks]
    fair = [numbers_of(numbers, stands) for stands in machine.fair]
    return Machine(steps, marks, fair)


def sight_reason(machine, one, other):
    names = unshared(machine.names_at(one), machine.names_at(other))
    if len(names) > 0:
        return ("mark", names[0])
    return ("fair", unshared(fair_numbers(machine, one), fair_numbers(machine, other))[0])


def steps_aside(machine, numbers, one, other):
    known = numbers_of(numbers, machine.next_of(other))
    return [stand for stand in machine.next_of(one) if numbers[stand] not in known]


def step_reason(machine, numbers, one, other):
    asides = steps_aside(machine, numbers, one, other)
    if len(asides) > 0:
        return ("step", asides[0])
    return ("answer", steps_aside(machine, numbers, other, one)[0])


def parting(machine, rows, one, other):
    for place, numbers in enumerate(rows):
        if numbers[one] != numbers[other]:
            if place == 0:
                return (0, sight_reason(machine, one, other))
            return (place, step_reason(machine, rows[place - 1], one, other))
    return None


def partings(machine):
    rows = numberings(machine)
    told = []
    for one in everywhere(machine):
        told.append([parting(machine, rows, one, other) for other in everywhere(machine)])
    return told
