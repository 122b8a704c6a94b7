"""Fair walks: where they begin within a set, loops that show them, and ranks that show that there are none."""

from treesay.rounds import comes_to, distances, short_walk, walk_down
from treesay.stands import everywhere, flags, shared


def reach(machine, within, stand):
    inside = flags(machine, within)
    found = {stand: True}
    row = [stand]
    place = 0
    while place < len(row):
        for after in machine.next_of(row[place]):
            if inside[after] and after not in found:
                found[after] = True
                row.append(after)
        place += 1
    return sorted(found)


def bits_of(stands):
    told = 0
    for stand in stands:
        told |= 1 << stand
    return told


def onward_bits(machine, within):
    # The stands to which one comes by one step or more, for each stand, as bits of a whole number:
    # this is asked for all stands at once, and for each part of a saying, so that stand by stand takes too long.
    inside = bits_of(within)
    rows = [0 for stand in range(machine.many())]
    for stand in within:
        rows[stand] = bits_of(machine.next_of(stand)) & inside
    for middle in within:
        for stand in within:
            if (rows[stand] >> middle) & 1:
                rows[stand] |= rows[middle]
    return rows


def rings(machine, within):
    # A ring has all stands of the set that lie on a loop with one of them: what a walk that stays in the set
    # comes to again and again lies in one ring, and all of a ring can be come to again and again.
    stands = sorted(set(within))
    rows = onward_bits(machine, stands)
    told = []
    done = {}
    for stand in stands:
        if stand not in done and (rows[stand] >> stand) & 1:
            ring = [other for other in stands if (rows[stand] >> other) & (rows[other] >> stand) & 1]
            told.append(ring)
            for other in ring:
                done[other] = True
    return told


def missed_by(machine, ring):
    for number in range(len(machine.fair)):
        if len(shared(ring, machine.fair_at(number))) == 0:
            return number
    return None


def fair_rings(machine, within):
    return [ring for ring in rings(machine, within) if missed_by(machine, ring) is None]


def joined(lists):
    told = []
    for things in lists:
        told.extend(things)
    return told


def core(machine, within):
    return comes_to(machine, within, joined(fair_rings(machine, within)))


def alive(machine):
    return core(machine, everywhere(machine))


def way_back(machine, ring, stand, start):
    # One step at least, since a loop of one stand must step to itself.
    away = distances(machine, ring, [start])
    nearest = min(
        [after for after in machine.next_of(stand) if away[after] is not None],
        key=lambda after: away[after],
    )
    return walk_down(machine, away, nearest)[:-1]


def fair_loop(machine, ring, start):
    told = [start]
    for number in range(len(machine.fair)):
        wanted = shared(ring, machine.fair_at(number))
        if len(shared(told, wanted)) == 0:
            told.extend(short_walk(machine, ring, wanted, told[-1])[1:])
    return told + way_back(machine, ring, told[-1], start)


def loop_of(machine, within, stand):
    fair = fair_rings(machine, within)
    walk = short_walk(machine, within, joined(fair), stand)
    if walk is None:
        return None
    last = walk[-1]
    around = [ring for ring in fair if last in ring]
    return (walk, fair_loop(machine, around[0], last))


def ranks(machine, within):
    # How many stands one comes to never grows along a step, and stays alike just where there is a way back:
    # so it falls, or the step lies in a ring, and a ring that is not in the core misses a fair set.
    begins = flags(machine, core(machine, within))
    missed = {}
    for ring in rings(machine, within):
        for stand in ring:
            missed[stand] = missed_by(machine, ring)
    told = [None for stand in range(machine.many())]
    for stand in within:
        if not begins[stand]:
            told[stand] = (len(reach(machine, within, stand)) - 1, missed.get(stand))
    return told
