"""Following: which stands do all that others do, and where another one fails to."""

from treesay.stands import everywhere, unshared


def sight_failing(names, known):
    apart = unshared(names, known)
    if len(apart) == 0:
        return None
    return (0, ("mark", apart[0]))


def sight_failings(machine, other):
    known = [other.names_at(follower) for follower in everywhere(other)]
    told = []
    for stand in everywhere(machine):
        names = machine.names_at(stand)
        told.append([sight_failing(names, each) for each in known])
    return told


def failed_pairs(told):
    pairs = []
    for stand, row in enumerate(told):
        pairs.extend([(stand, follower) for follower, failing in enumerate(row) if failing is not None])
    return pairs


def answer_counts(machine, other):
    # For each step to a stand of the machine, and each follower: how many of the follower's steps still answer it.
    counts = [len(other.next_of(follower)) for follower in everywhere(other)]
    return [list(counts) for stand in everywhere(machine)]


def left_without_answer(other, counts, answer):
    told = []
    for follower in other.before(answer):
        counts[follower] -= 1
        if counts[follower] == 0:
            told.append(follower)
    return told


def failings(machine, other):
    # Pairs come into the row with rounds that never fall, so the answer that goes last has the greatest round
    # of all the answers to a step.
    told = sight_failings(machine, other)
    counts = answer_counts(machine, other)
    row = failed_pairs(told)
    place = 0
    while place < len(row):
        stand = row[place][0]
        answer = row[place][1]
        later = told[stand][answer][0] + 1
        for follower in left_without_answer(other, counts[stand], answer):
            for source in machine.before(stand):
                if told[source][follower] is None:
                    told[source][follower] = (later, ("step", stand))
                    row.append((source, follower))
        place += 1
    return told


def followed(machine, other):
    told = []
    for stand, row in enumerate(failings(machine, other)):
        told.extend([(stand, follower) for follower, failing in enumerate(row) if failing is None])
    return told
