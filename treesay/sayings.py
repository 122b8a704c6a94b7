"""Sayings: what can be said of the walks of a machine, their words, and the sayings within them."""


class Saying:
    # The word is not enough to know a saying's kind by: a mark may be called by any text, by "not" too.
    def __init__(self, word, parts):
        self.word = word
        self.parts = parts

    def words(self):
        told = [self.word]
        for part in self.parts:
            told.extend(part.words())
        return told

    def within(self):
        told = []
        for part in self.parts:
            told.extend(part.within())
        told.append(self)
        return told


class OfOne(Saying):
    def __init__(self, word, part):
        Saying.__init__(self, word, (part,))
        self.part = part


class OfTwo(Saying):
    def __init__(self, word, left, right):
        Saying.__init__(self, word, (left, right))
        self.left = left
        self.right = right


class All(Saying):
    def __init__(self):
        Saying.__init__(self, "all", ())


class Mark(Saying):
    def __init__(self, name):
        Saying.__init__(self, name, ())
        self.name = name


class Not(OfOne):
    def __init__(self, part):
        OfOne.__init__(self, "not", part)


class Both(OfTwo):
    def __init__(self, left, right):
        OfTwo.__init__(self, "both", left, right)


class Either(OfTwo):
    def __init__(self, left, right):
        OfTwo.__init__(self, "either", left, right)


class SomeNext(OfOne):
    def __init__(self, part):
        OfOne.__init__(self, "somenext", part)


class EachNext(OfOne):
    def __init__(self, part):
        OfOne.__init__(self, "eachnext", part)


class SomeTill(OfTwo):
    def __init__(self, left, right):
        OfTwo.__init__(self, "sometill", left, right)


class EachTill(OfTwo):
    def __init__(self, left, right):
        OfTwo.__init__(self, "eachtill", left, right)


class SomeAlways(OfOne):
    def __init__(self, part):
        OfOne.__init__(self, "somealways", part)


class EachAlways(OfOne):
    def __init__(self, part):
        OfOne.__init__(self, "eachalways", part)


class SomeEver(OfOne):
    def __init__(self, part):
        OfOne.__init__(self, "someever", part)


class EachEver(OfOne):
    def __init__(self, part):
        OfOne.__init__(self, "eachever", part)
