import unittest

from treesay.sayings import (
    All, Both, EachAlways, EachEver, EachNext, EachTill, Either, Mark, Not, Saying, SomeAlways, SomeEver, SomeNext,
    SomeTill,
)

OF_ONE = (
    (Not, "not"), (SomeNext, "somenext"), (EachNext, "eachnext"), (SomeAlways, "somealways"),
    (EachAlways, "eachalways"), (SomeEver, "someever"), (EachEver, "eachever"),
)
OF_TWO = ((Both, "both"), (Either, "either"), (SomeTill, "sometill"), (EachTill, "eachtill"))
KINDS = (All, Mark) + tuple(kind for kind, word in OF_ONE + OF_TWO)


def one_of_each():
    told = [All(), Mark("a")]
    told.extend(kind(Mark("a")) for kind, word in OF_ONE)
    told.extend(kind(Mark("a"), Mark("b")) for kind, word in OF_TWO)
    return told


def row_of(mark, deep):
    """Marks joined by Eithers that lean to the right, deep deep."""
    saying = mark
    for level in range(deep - 1):
        saying = Either(mark, saying)
    return saying


def full(deep):
    """A saying of 2 ** deep - 1 parts, whose marks are numbered from the left."""
    row = [Mark("m" + str(number)) for number in range(2 ** (deep - 1))]
    while len(row) > 1:
        row = [Both(row[place], row[place + 1]) for place in range(0, len(row), 2)]
    return row[0]


class SayingTest(unittest.TestCase):
    def same(self, told, asked):
        """Both lists hold the very same objects, in the same order."""
        self.assertIs(type(told), list)
        self.assertEqual([id(saying) for saying in told], [id(saying) for saying in asked])


class KindsTest(SayingTest):
    def test_there_are_thirteen(self):
        self.assertEqual(len(set(KINDS)), 13)

    def test_each_is_under_saying(self):
        for kind in KINDS:
            self.assertTrue(issubclass(kind, Saying))
            self.assertIsNot(kind, Saying)

    def test_none_is_under_another(self):
        for one in KINDS:
            for other in KINDS:
                with self.subTest(one=one.__name__, other=other.__name__):
                    self.assertEqual(issubclass(one, other), one is other)

    def test_each_saying_is_of_its_kind_alone(self):
        for kind, saying in zip(KINDS, one_of_each()):
            self.assertIsInstance(saying, Saying)
            self.assertEqual([other for other in KINDS if isinstance(saying, other)], [kind])

    def test_saying_has_the_methods(self):
        self.assertTrue(callable(Saying.words))
        self.assertTrue(callable(Saying.within))


class FieldsTest(SayingTest):
    def test_of_a_mark(self):
        for name in ("a", "abcdefgh", "", "all", "not", "somealways", "A B", "x\ny", "long " * 50):
            self.assertEqual(Mark(name).name, name)
            self.assertEqual(Mark(name=name).name, name)

    def test_of_one_part(self):
        for kind, word in OF_ONE:
            part = Mark("a")
            self.assertIs(kind(part).part, part)
            self.assertIs(kind(part=part).part, part)

    def test_of_two_parts(self):
        for kind, word in OF_TWO:
            left, right = Mark("a"), Mark("b")
            saying = kind(left, right)
            self.assertIs(saying.left, left)
            self.assertIs(saying.right, right)
            saying = kind(right=right, left=left)
            self.assertIs(saying.left, left)
            self.assertIs(saying.right, right)

    def test_every_kind_takes_every_kind_as_a_part(self):
        for part in one_of_each():
            for kind, word in OF_ONE:
                self.assertIs(kind(part).part, part)
            for kind, word in OF_TWO:
                saying = kind(part, part)
                self.assertIs(saying.left, part)
                self.assertIs(saying.right, part)


class WordsTest(SayingTest):
    def test_of_all(self):
        self.assertEqual(All().words(), ["all"])

    def test_of_a_mark_its_name(self):
        for name in ("a", "abcdefgh", "", "all", "both", "two words", "x\ny"):
            self.assertEqual(Mark(name).words(), [name])

    def test_of_one_part(self):
        for kind, word in OF_ONE:
            self.assertEqual(kind(Mark("a")).words(), [word, "a"])
            self.assertEqual(kind(All()).words(), [word, "all"])

    def test_of_two_parts_the_left_one_first(self):
        for kind, word in OF_TWO:
            self.assertEqual(kind(Mark("a"), Mark("b")).words(), [word, "a", "b"])
            self.assertEqual(kind(Mark("b"), Mark("a")).words(), [word, "b", "a"])

    def test_each_kind_within_each(self):
        for part in one_of_each():
            for kind, word in OF_ONE:
                self.assertEqual(kind(part).words(), [word] + part.words())
            for kind, word in OF_TWO:
                self.assertEqual(kind(part, Mark("z")).words(), [word] + part.words() + ["z"])
                self.assertEqual(kind(Mark("z"), part).words(), [word, "z"] + part.words())

    def test_nested(self):
        saying = EachTill(
            Both(Mark("a"), Not(SomeNext(Mark("b")))),
            Either(SomeTill(Mark("c"), All()), EachAlways(SomeEver(Mark("d")))),
        )
        self.assertEqual(
            " ".join(saying.words()),
            "eachtill both a not somenext b either sometill c all eachalways someever d",
        )

    def test_a_part_in_several_places(self):
        part = SomeNext(Mark("a"))
        saying = Both(part, Either(part, Not(part)))
        self.assertEqual(
            saying.words(), ["both", "somenext", "a", "either", "somenext", "a", "not", "somenext", "a"]
        )
        self.assertEqual(part.words(), ["somenext", "a"])

    def test_deep_and_wide(self):
        saying = Mark("a")
        for level in range(19):
            saying = EachEver(saying)
        self.assertEqual(saying.words(), ["eachever"] * 19 + ["a"])
        self.assertEqual(row_of(Mark("a"), 20).words(), ["either", "a"] * 19 + ["a"])
        marks = [word for word in full(7).words() if word != "both"]
        self.assertEqual(marks, ["m" + str(number) for number in range(64)])

    def test_what_was_told_changed_and_asked_again(self):
        for saying in one_of_each() + [full(4), Not(Not(All()))]:
            first = saying.words()
            kept = list(first)
            self.assertIs(type(first), list)
            first.append("more")
            first.reverse()
            self.assertEqual(saying.words(), kept)
            first.clear()
            self.assertEqual(saying.words(), kept)
            later = saying.words()
            saying.words().clear()
            self.assertEqual(later, kept)
            for part in saying.within():
                part.words().clear()
            self.assertEqual(saying.words(), kept)

    def test_two_sayings_beside_one_another(self):
        one, other = Not(Mark("a")), Not(Mark("b"))
        one.words().append("more")
        self.assertEqual((one.words(), other.words()), (["not", "a"], ["not", "b"]))


class WithinTest(SayingTest):
    def test_of_all_and_of_a_mark_itself_alone(self):
        for saying in (All(), Mark("a"), Mark("")):
            self.same(saying.within(), [saying])

    def test_of_one_part(self):
        for kind, word in OF_ONE:
            part = Mark("a")
            saying = kind(part)
            self.same(saying.within(), [part, saying])

    def test_of_two_parts_the_left_one_first(self):
        for kind, word in OF_TWO:
            left, right = Mark("a"), All()
            saying = kind(left, right)
            self.same(saying.within(), [left, right, saying])

    def test_each_kind_within_each(self):
        for part in one_of_each():
            beside = Mark("z")
            for kind, word in OF_ONE:
                saying = kind(part)
                self.same(saying.within(), part.within() + [saying])
            for kind, word in OF_TWO:
                saying = kind(part, beside)
                self.same(saying.within(), part.within() + [beside, saying])
                saying = kind(beside, part)
                self.same(saying.within(), [beside] + part.within() + [saying])

    def test_nested(self):
        first, second, third = Mark("a"), All(), Mark("c")
        inner = SomeNext(second)
        left = Both(first, inner)
        right = EachAlways(third)
        saying = SomeTill(left, right)
        self.same(saying.within(), [first, second, inner, left, third, right, saying])

    def test_a_part_as_often_as_it_stands_there(self):
        mark = Mark("a")
        part = Not(mark)
        pair = Both(part, part)
        saying = Either(pair, part)
        self.same(saying.within(), [mark, part, mark, part, pair, mark, part, saying])

    def test_twenty_deep(self):
        chain = [Mark("a")]
        for level in range(19):
            kind, word = OF_ONE[level % len(OF_ONE)]
            chain.append(kind(chain[-1]))
        self.assertEqual(len(chain), 20)
        self.same(chain[-1].within(), chain)

    def test_twenty_deep_and_leaning(self):
        mark = Mark("a")
        for leaning_left in (True, False):
            saying = mark
            asked = [mark]
            for level in range(19):
                if leaning_left:
                    saying = SomeTill(saying, mark)
                    asked = asked + [mark, saying]
                else:
                    saying = SomeTill(mark, saying)
                    asked = [mark] + asked + [saying]
            self.same(saying.within(), asked)

    def test_two_hundred_parts(self):
        # The full one has 127 parts, each row 35: as many as a saying may have, and as deep as one may be.
        mark = Mark("a")
        rows = Both(row_of(mark, 18), row_of(mark, 18))
        saying = Both(Not(full(7)), rows)
        within = saying.within()
        self.assertEqual(len(within), 127 + 1 + 35 + 35 + 1 + 1)
        self.assertEqual(len(within), 200)
        self.assertEqual(len(saying.words()), 200)
        self.same(within[:128], saying.left.within())
        self.same(within[128:199], rows.within())
        self.same(within[199:], [saying])
        told = [part.name for part in within[:127] if isinstance(part, Mark)]
        self.assertEqual(told, ["m" + str(number) for number in range(64)])

    def test_parts_stand_ahead_of_what_they_are_part_of(self):
        within = full(6).within()
        place = {id(saying): number for number, saying in enumerate(within)}
        self.assertEqual(len(place), len(within))
        for saying in within:
            if isinstance(saying, Both):
                self.assertLess(place[id(saying.left)], place[id(saying.right)])
                self.assertEqual(place[id(saying.right)] + 1, place[id(saying)])

    def test_what_was_told_changed_and_asked_again(self):
        for saying in one_of_each() + [full(4), Not(Not(All()))]:
            first = saying.within()
            kept = list(first)
            words = saying.words()
            first.append(All())
            first.reverse()
            self.same(saying.within(), kept)
            first.clear()
            self.same(saying.within(), kept)
            later = saying.within()
            saying.within().clear()
            self.same(later, kept)
            for part in kept:
                part.within().clear()
            self.same(saying.within(), kept)
            self.assertEqual(saying.words(), words)


if __name__ == "__main__":
    unittest.main()
