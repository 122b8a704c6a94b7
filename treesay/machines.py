"""Machines: stands, the steps between them, marks at stands, and fair sets."""

from treesay.errors import NoMark, NoStand, NoStep

MOST_STANDS = 60
LONGEST_NAME = 8
LETTERS = "abcdefghijklmnopqrstuvwxyz"

# A mark of such a name would be taken for the beginning of another saying where sayings are written.
# The words somealways and eachalways are missing, since they are too long for a name anyway.
SAYING_WORDS = (
    "all", "not", "both", "either", "somenext", "eachnext", "sometill", "eachtill", "someever", "eachever",
)


def is_stand(thing, many):
    # Python counts True and False as ints; here they are no whole numbers.
    return isinstance(thing, int) and not isinstance(thing, bool) and 0 <= thing < many


def check_stands(stands, many, where):
    ahead = {}
    for stand in stands:
        if not is_stand(stand, many):
            raise NoStand(f"{where}: {stand!r} is none of the {many} stands")
        if stand in ahead:
            raise NoStand(f"{where}: {stand} stands there twice")
        ahead[stand] = True


def check_steps(steps):
    many = len(steps)
    if many < 1 or many > MOST_STANDS:
        raise NoStand(f"{many} stands, and not 1 to {MOST_STANDS}")
    for stand, targets in enumerate(steps):
        check_stands(targets, many, f"steps of stand {stand}")
        if len(targets) == 0:
            raise NoStep(f"stand {stand} has no step")


def is_name(name):
    if not isinstance(name, str) or name in SAYING_WORDS:
        return False
    return 1 <= len(name) <= LONGEST_NAME and all([sign in LETTERS for sign in name])


def check_marks(marks, many):
    ahead = {}
    for name, stands in marks:
        if not is_name(name):
            raise NoMark(f"{name!r} is no name of a mark")
        if name in ahead:
            raise NoMark(f"two marks are called {name}")
        ahead[name] = True
        check_stands(stands, many, f"mark {name}")


def check_fair(fair, many):
    for number, stands in enumerate(fair):
        check_stands(stands, many, f"fair set {number}")


def copied(lists):
    return [list(things) for things in lists]


def sources_of(steps):
    sources = [[] for stand in steps]
    for stand, targets in enumerate(steps):
        for target in targets:
            sources[target].append(stand)
    return sources


class Machine:
    def __init__(self, steps, marks=None, fair=None):
        given_marks = [] if marks is None else marks
        given_fair = [] if fair is None else fair
        check_steps(steps)
        check_marks(given_marks, len(steps))
        check_fair(given_fair, len(steps))
        self.steps = copied(steps)
        self.marks = [(name, list(stands)) for name, stands in given_marks]
        self.fair = copied(given_fair)
        # Kept, since going backwards over the steps is asked for often and would walk all of them each time.
        self.sources = sources_of(self.steps)

    def many(self):
        return len(self.steps)

    def next_of(self, stand):
        return sorted(self.steps[stand])

    def before(self, stand):
        return list(self.sources[stand])

    def marked(self, name):
        for known, stands in self.marks:
            if known == name:
                return sorted(stands)
        return []

    def names_at(self, stand):
        return sorted([name for name, stands in self.marks if stand in stands])

    def fair_at(self, number):
        return sorted(self.fair[number])
