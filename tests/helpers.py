"""What several tests need: machines to ask, slow and literal tellers of the same, and looks at reasons."""

import copy
import itertools
import random

from treesay.machines import Machine
from treesay.sayings import (
    All, Both, EachAlways, EachEver, EachNext, EachTill, Either, Mark, Not, SomeAlways, SomeEver, SomeNext, SomeTill,
)

OF_ONE = (Not, SomeNext, EachNext, SomeAlways, EachAlways, SomeEver, EachEver)
OF_TWO = (Both, Either, SomeTill, EachTill)
OVER_SOME = (SomeNext, SomeTill, SomeAlways, SomeEver)
OVER_EACH = (EachNext, EachTill, EachAlways, EachEver)
MARKS = ("a", "b")
MOST_OF_A_WALK = 600


def ring_steps(many):
    return [[(stand + 1) % many] for stand in range(many)]


def all_of(machine):
    return list(range(machine.many()))


def some_of(chance, many, most=None):
    """A set of some stands, in no order: a machine takes its lists so."""
    stands = chance.sample(range(many), chance.randint(0, many))
    return stands if most is None else stands[:most]


def chance_machine(chance, many, degree, fair):
    """A machine by chance (the same one each time, by the seed), its lists in no order."""
    steps = [chance.sample(range(many), chance.randint(1, min(degree, many))) for stand in range(many)]
    marks = [(name, some_of(chance, many)) for name in MARKS]
    sets = [some_of(chance, many) for number in range(fair)]
    return Machine(steps, marks, sets)


def chance_machines(seed, count, many, degree=3, fair=2):
    """Machines of 1 to many stands with none to fair fair sets."""
    chance = random.Random(seed)
    return [
        chance_machine(chance, chance.randint(1, many), degree, chance.randint(0, fair)) for number in range(count)
    ]


def spread_machine(chance, machine, most):
    """A machine that folds: of each stand 1 to most copies, each stepping to some copy of each stand ahead."""
    copies = []
    many = 0
    for stand in range(machine.many()):
        count = chance.randint(1, most)
        copies.append(list(range(many, many + count)))
        many += count
    names = chance.sample(range(many), many)
    steps = [[] for stand in range(many)]
    for stand, own in enumerate(copies):
        for one in own:
            for after in machine.steps[stand]:
                some = chance.sample(copies[after], chance.randint(1, len(copies[after])))
                steps[names[one]].extend(names[each] for each in some)
    marks = [(name, [names[one] for stand in stands for one in copies[stand]]) for name, stands in machine.marks]
    fair = [[names[one] for stand in stands for one in copies[stand]] for stands in machine.fair]
    return Machine(steps, marks, fair)


def spread_machines(seed, count, many, most, degree=2, fair=2):
    chance = random.Random(seed)
    return [spread_machine(chance, machine, most) for machine in chance_machines(seed, count, many, degree, fair)]


def chance_saying(chance, deep):
    if deep == 1 or chance.random() < 0.15:
        return chance.choice((All(), Mark("a"), Mark("b"), Mark("c")))
    if chance.random() < 0.6:
        return chance.choice(OF_ONE)(chance_saying(chance, deep - 1))
    return chance.choice(OF_TWO)(chance_saying(chance, deep - 1), chance_saying(chance, deep - 1))


def all_sets(stands):
    told = []
    for size in range(len(stands) + 1):
        told.extend(list(some) for some in itertools.combinations(sorted(stands), size))
    return told


def fields_of(machine):
    return copy.deepcopy((machine.steps, machine.marks, machine.fair, vars(machine)))


def lists_in(told):
    """Every list within what was told, itself too."""
    found = [told] if isinstance(told, list) else []
    if isinstance(told, (list, tuple)):
        for thing in told:
            found.extend(lists_in(thing))
    return found


def check_own(test, ask):
    """What ask tells may be changed by the asker: the same asked again comes the same, from new lists."""
    first = ask()
    kept = copy.deepcopy(first)
    found = lists_in(first)
    test.assertEqual(len(found), len({id(each) for each in found}), "one list told in two places")
    later = ask()
    test.assertEqual(later, kept)
    test.assertEqual({id(each) for each in found} & {id(each) for each in lists_in(later)}, set())
    for each in found:
        each.append(0)
        each.reverse()
        each.append("x")
    test.assertEqual(later, kept)
    test.assertEqual(ask(), kept)
    for each in found:
        each.clear()
    test.assertEqual(ask(), kept)


def check_set(test, told, many):
    test.assertIs(type(told), list)
    test.assertTrue(all(type(stand) is int and 0 <= stand < many for stand in told), told)
    test.assertEqual(told, sorted(set(told)))


# Slow and literal tellers.

def plain_growing(machine, through, goal):
    told = [sorted(goal)]
    while True:
        after = set(goal)
        for stand in through:
            if any(target in told[-1] for target in machine.steps[stand]):
                after.add(stand)
        if sorted(after) == told[-1]:
            return told
        told.append(sorted(after))


def plain_shrinking(machine, within):
    told = [sorted(within)]
    while True:
        after = [stand for stand in told[-1] if any(target in told[-1] for target in machine.steps[stand])]
        if after == told[-1]:
            return told
        told.append(after)


def plain_short_walk(machine, through, goal, stand):
    """The least of all walks with the fewest steps, found by looking at all walks."""
    walks = [[stand]]
    for steps in range(machine.many()):
        right = [walk for walk in walks if walk[-1] in goal]
        if right:
            return min(right)
        walks = [walk + [after] for walk in walks if walk[-1] in through for after in machine.steps[walk[-1]]]
    return None


def plain_reach(machine, within, stand):
    """By steps between stands of the set, by none too."""
    found = {stand}
    while True:
        more = {after for one in found for after in machine.steps[one] if after in within}
        if more <= found:
            return sorted(found)
        found |= more


def goes_round(machine, stands):
    """Whether a walk within these stands may come to each of them again and again."""
    for one in stands:
        onward = set()
        for after in machine.steps[one]:
            if after in stands:
                onward.update(plain_reach(machine, stands, after))
        if onward != set(stands):
            return False
    return len(stands) > 0


def plain_core(machine, within):
    """By each set of stands to which a walk might come again and again: for small machines."""
    ends = set()
    for stands in all_sets(within):
        if all(set(stands) & set(fair) for fair in machine.fair) and goes_round(machine, stands):
            ends.update(stands)
    return [stand for stand in sorted(within) if set(plain_reach(machine, within, stand)) & ends]


def names_at(machine, stand):
    return {name for name, stands in machine.marks if stand in stands}


def fairs_at(machine, stand):
    return {number for number, stands in enumerate(machine.fair) if stand in stands}


def all_splits(stands):
    """All ways to part stands into classes."""
    if not stands:
        return [[]]
    told = []
    for split in all_splits(stands[1:]):
        told.append([[stands[0]]] + split)
        for place in range(len(split)):
            told.append(split[:place] + [[stands[0]] + split[place]] + split[place + 1:])
    return told


def split_holds(machine, split):
    """Whether any two stands of a class have the same marks and fair sets, and step to the same classes."""
    for together in split:
        for one, other in itertools.product(together, together):
            if names_at(machine, one) != names_at(machine, other) or fairs_at(machine, one) != fairs_at(machine, other):
                return False
            for each in split:
                if set(machine.steps[one]) & set(each) and not set(machine.steps[other]) & set(each):
                    return False
    return True


def plain_classes(machine):
    """The fewest classes, found by looking at all ways to part the stands: for small machines."""
    right = [split for split in all_splits(all_of(machine)) if split_holds(machine, split)]
    fewest = min(len(split) for split in right)
    found = [sorted(sorted(each) for each in split) for split in right if len(split) == fewest]
    if len(found) != 1:
        raise AssertionError("the fewest classes are not told by one split alone")
    return found[0]


def pairs_hold(machine, other, pairs):
    for one, follower in pairs:
        if names_at(machine, one) != names_at(other, follower):
            return False
        for after in machine.steps[one]:
            if not any((after, answer) in pairs for answer in other.steps[follower]):
                return False
    return True


def plain_followed(machine, other):
    """All pairs of all lists of pairs that hold: for tiny machines."""
    found = set()
    for pairs in all_sets(list(itertools.product(all_of(machine), all_of(other)))):
        if not set(pairs) <= found and pairs_hold(machine, other, pairs):
            found.update(pairs)
    return sorted(found)


def fair_walks(machine, stand, most):
    """The fair walks from a stand that go on by a loop: (stands up to the loop's end, place of the loop's begin)."""
    told = []
    walks = [[stand]]
    for length in range(most):
        for walk in walks:
            for begin, first in enumerate(walk):
                round_again = walk[begin:]
                if first in machine.steps[walk[-1]] and all(set(round_again) & set(fair) for fair in machine.fair):
                    told.append((walk, begin))
        walks = [walk + [after] for walk in walks for after in machine.steps[walk[-1]]]
    return told


def has_till(walk, left, right):
    """Whether a walk that goes on by a loop has left till right: behind the loop's end come the same stands."""
    for place, stand in enumerate(walk):
        if stand in right:
            return all(ahead in left for ahead in walk[:place])
    return False


class PlainTeller:
    """The meaning of sayings, word by word, over all fair walks that go on by a loop: for tiny machines."""

    def __init__(self, machine, most=8):
        self.machine = machine
        self.walks = [fair_walks(machine, stand, most) for stand in range(machine.many())]

    def second(self, walk, begin):
        return walk[1] if len(walk) > 1 else walk[begin]

    def where(self, some, truth):
        told = []
        for stand, walks in enumerate(self.walks):
            truths = [truth(walk, begin) for walk, begin in walks]
            if any(truths) if some else all(truths):
                told.append(stand)
        return told

    def holds(self, saying):
        stands = list(range(self.machine.many()))
        if isinstance(saying, All):
            return stands
        if isinstance(saying, Mark):
            return sorted(stand for name, has in self.machine.marks if name == saying.name for stand in has)
        if isinstance(saying, (Both, Either, SomeTill, EachTill)):
            left, right = self.holds(saying.left), self.holds(saying.right)
            if isinstance(saying, Both):
                return [stand for stand in stands if stand in left and stand in right]
            if isinstance(saying, Either):
                return [stand for stand in stands if stand in left or stand in right]
            return self.where(isinstance(saying, SomeTill), lambda walk, begin: has_till(walk, left, right))
        part = self.holds(saying.part)
        if isinstance(saying, Not):
            return [stand for stand in stands if stand not in part]
        some = isinstance(saying, OVER_SOME)
        if isinstance(saying, (SomeNext, EachNext)):
            return self.where(some, lambda walk, begin: self.second(walk, begin) in part)
        if isinstance(saying, (SomeAlways, EachAlways)):
            return self.where(some, lambda walk, begin: all(stand in part for stand in walk))
        return self.where(some, lambda walk, begin: any(stand in part for stand in walk))


# Looks at what was told.

def check_steps(test, machine, walk):
    for one, after in zip(walk, walk[1:]):
        test.assertIn(after, machine.steps[one], walk)


def check_walk(test, machine, stand, walk):
    test.assertIs(type(walk), list)
    test.assertTrue(1 <= len(walk) <= MOST_OF_A_WALK)
    test.assertEqual(walk[0], stand)
    check_steps(test, machine, walk)


def check_loop(test, machine, within, stand, walk, loop):
    check_walk(test, machine, stand, walk)
    test.assertIs(type(loop), list)
    test.assertLessEqual(len(walk) + len(loop), MOST_OF_A_WALK)
    test.assertEqual(walk[-1], loop[0])
    check_steps(test, machine, loop + loop[:1])
    test.assertLessEqual(set(walk) | set(loop), set(within))
    for fair in machine.fair:
        test.assertTrue(set(loop) & set(fair), (loop, fair))


def check_ranks(test, machine, within, ranked, told):
    """Just the stands of ranked have a rank, and each step from them within the set goes as it must."""
    test.assertIs(type(told), list)
    test.assertEqual([stand for stand, rank in enumerate(told) if rank is not None], sorted(ranked))
    test.assertEqual(len(told), machine.many())
    for stand in ranked:
        test.assertIs(type(told[stand]), tuple)
        rank, missed = told[stand]
        test.assertIs(type(rank), int)
        test.assertTrue(0 <= rank < 1000000)
        if missed is not None:
            test.assertIs(type(missed), int)
            test.assertTrue(0 <= missed < len(machine.fair))
        for after in machine.steps[stand]:
            if after in within:
                test.assertIsNotNone(told[after])
                check_fall(test, machine, stand, after, told)


def check_fall(test, machine, stand, after, told):
    rank, missed = told[stand]
    if told[after][0] < rank:
        return
    test.assertEqual(told[after], (rank, missed))
    test.assertIsNotNone(missed)
    test.assertNotIn(stand, machine.fair[missed])
    test.assertNotIn(after, machine.fair[missed])
