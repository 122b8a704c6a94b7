"""Going round: sets that grow or shrink until nothing changes, distances, and short walks."""

from treesay.stands import flags


def distances(machine, through, goal):
    passable = flags(machine, through)
    told = [None for stand in range(machine.many())]
    for stand in goal:
        told[stand] = 0
    row = list(goal)
    place = 0
    while place < len(row):
        stand = row[place]
        for source in machine.before(stand):
            if passable[source] and told[source] is None:
                told[source] = told[stand] + 1
                row.append(source)
        place += 1
    return told


def comes_to(machine, through, goal):
    away = distances(machine, through, goal)
    return [stand for stand, steps in enumerate(away) if steps is not None]


def growing(machine, through, goal):
    # A growing set has what the one ahead has, and what steps to a stand that came new in that one:
    # so it has just the stands up to a distance, and there is no need to look at all stands in each round.
    away = distances(machine, through, goal)
    farthest = max([steps for steps in away if steps is not None], default=0)
    told = []
    for most in range(farthest + 1):
        told.append([stand for stand, steps in enumerate(away) if steps is not None and steps <= most])
    return told


def steps_into(machine, stand, hit):
    return any([hit[after] for after in machine.next_of(stand)])


def stepping_to(machine, among, goal):
    hit = flags(machine, goal)
    return [stand for stand in among if steps_into(machine, stand, hit)]


def shrinking(machine, within):
    told = [sorted(set(within))]
    smaller = stepping_to(machine, told[0], told[0])
    while smaller != told[-1]:
        told.append(smaller)
        smaller = stepping_to(machine, smaller, smaller)
    return told


def walk_down(machine, away, stand):
    # On a walk that is as short as can be each distance is one less than the one ahead,
    # and from each stand with a distance some such walk goes on: so the least stand can be taken at each step.
    if away[stand] is None:
        return None
    told = [stand]
    for rest in range(away[stand] - 1, -1, -1):
        told.append(min([after for after in machine.next_of(told[-1]) if away[after] == rest]))
    return told


def short_walk(machine, through, goal, stand):
    return walk_down(machine, distances(machine, through, goal), stand)
