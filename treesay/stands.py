"""Sets of stands, and of other things that can be sorted: rising lists, each thing once."""


def everywhere(machine):
    return list(range(machine.many()))


def flags(machine, stands):
    told = [False for stand in range(machine.many())]
    for stand in stands:
        told[stand] = True
    return told


def others(machine, stands):
    return without(everywhere(machine), stands)


def shared(one, other):
    return sorted(set(one) & set(other))


def together(one, other):
    return sorted(set(one) | set(other))


def without(one, other):
    return sorted(set(one) - set(other))


def unshared(one, other):
    return sorted(set(one) ^ set(other))
