import copy
import itertools
import unittest

from countgen.books import read_book
from countgen.errors import NoName, NoValue
from countgen.judging import compared, fits, size_of
from countgen.shapes import read_shape
from tests.plainly import SAMPLES, deep_samples, plain_compared, plain_size, plain_values, read_sample

TREE = read_book("tree=pick(leaf:whole(0,1),node:row(tree,tree))\nbit=whole(0,1)\nmore=bit")


class Stubborn:
    """A thing that lets nothing be asked of it."""

    def refuse(self, *others):
        raise RuntimeError("this thing was asked something")

    __eq__ = __ne__ = __lt__ = __le__ = __gt__ = __ge__ = refuse
    __bool__ = __len__ = __iter__ = __getitem__ = __contains__ = __hash__ = refuse


ANYTHING = (
    True, False, None, 0, 1, -1, 10 ** 299, 1.0, 0.0, float("nan"), 1j, "", "a", "ab", "leaf", " ", "\n", b"", b"a",
    [], [0], [[]], [True], [None], ["a"], [()], (), (0,), ((),), ("leaf",), ("leaf", 0), ("leaf", 0, 0), ["leaf", 0],
    ("leaf", True), ([], 0), (None, 0), ({}, 0), (0, "leaf"), {}, {"a": 1}, {0}, frozenset(), object(), int, len,
    Stubborn(), [Stubborn()], (Stubborn(),), (Stubborn(), Stubborn()), ("leaf", Stubborn()), [Stubborn()] * 2, range(2),
    iter([]), bytearray(b"a"), [0, "a"], [0, []], [[], 0], (0, ()), [1, 0], [0, 1], [0, 0])


class FitsCase(unittest.TestCase):
    def told(self, answer, text, values, book=()):
        for value in values:
            with self.subTest(shape=text, value=value):
                self.assertIs(fits(list(book), read_shape(text), value), answer)


class FitsTest(FitsCase):
    def test_wholes(self):
        self.told(True, "whole(-3,10)", (-3, -2, 0, 1, 9, 10))
        self.told(False, "whole(-3,10)", (-4, 11, 10 ** 299, -10 ** 299, True, False, None, "0", "", 0.0, [0], (0,)))
        self.told(True, "whole(0,1)", (0, 1))
        self.told(False, "whole(0,1)", (True, False, 2, -1))
        great = 10 ** 60 - 1
        self.told(True, f"whole(-{great},{great})", (-great, great, 0))
        self.told(False, f"whole(-{great},{great})", (-great - 1, great + 1))
        self.told(False, "whole(7,7)", (6, 8))

    def test_texts(self):
        self.told(True, "text(ab0)", ("", "a", "0", "ab0", "bbbb", "a" * 2000))
        self.told(False, "text(ab0)", ("c", "A", "abc", "1", " ", "ab ", "\n", "a\n", "a" * 1999 + "c", 0, None, True))
        self.told(False, "text(ab0)", ([], ["a"], (), ("a", "b"), b"a", {"a": 1}))

    def test_rows(self):
        self.told(True, "row()", ((),))
        self.told(False, "row()", ([], (0,), ((),), "", None, 0, False))
        self.told(True, "row(whole(0,9),text(ab))", ((0, ""), (9, "ab")))
        self.told(False, "row(whole(0,9),text(ab))", (
            (), (0,), (0, "", 0), [0, ""], ("", 0), (10, ""), (0, "c"), (True, ""), (0, None), ((0, ""),), None))
        self.told(True, "row(row())", (((),),))
        self.told(False, "row(row())", ((), ([],), [()]))
        eight = "row(" + ",".join(["whole(0,1)"] * 8) + ")"
        self.told(True, eight, ((0, 1) * 4,))
        self.told(False, eight, ((0,) * 7, (0,) * 9, (0,) * 7 + (2,), (True,) + (0,) * 7))

    def test_manys(self):
        self.told(True, "many(whole(0,9))", ([], [0], [9, 0, 0], [5] * 2000))
        self.told(False, "many(whole(0,9))", ((), (0,), [10], [0, 10], [0] * 1999 + [-1], [True], [[]], "", None, {}))
        self.told(True, "many(many(row()))", ([], [[]], [[()], []], [[(), ()]]))
        self.told(False, "many(many(row()))", ([()], [[], ()], [[[]]]))

    def test_picks(self):
        text = "pick(b:whole(0,9),a:text(ab),c:row())"
        self.told(True, text, (("b", 0), ("a", ""), ("c", ()), ("b", 9), ("a", "ba")))
        self.told(False, text, (
            ("b", ""), ("a", 0), ("c", 0), ("d", 0), ("", 0), ("B", 0), ("ab", "ab"), ["b", 0], ("b",), ("b", 0, 0), (),
            ("b", True), (0, "b"), (None, 0), (["b"], 0), ({}, 0), ("b", None), "b", None, 0, {"b": 0}))

    def test_uses(self):
        self.told(True, "bit", (0, 1), TREE)
        self.told(True, "more", (0, 1), TREE)
        self.told(False, "more", (2, True, None, [0]), TREE)
        leaf = ("leaf", 1)
        self.told(True, "tree", (leaf, ("node", (leaf, leaf)), ("node", (("node", (leaf, leaf)), leaf))), TREE)
        self.told(False, "tree", (
            0, ("leaf", 2), ("node", leaf), ("node", (leaf,)), ("node", [leaf, leaf]), ("node", (leaf, 0)),
            ("node", (leaf, ("node", (leaf, ("leaf", None)))))), TREE)
        self.told(True, "many(row(more,tree))", ([], [(0, leaf)]), TREE)
        self.told(False, "many(row(more,tree))", ([(0, leaf), (2, leaf)],), TREE)

    def test_a_name_that_the_book_has_not(self):
        with self.assertRaises(NoName):
            fits(TREE, ("use", "lost"), 0)

    def test_rising_ones(self):
        self.told(True, "rising(whole(0,9))", ([], [9], [0, 0], [0, 1, 1, 9], [3] * 2000, list(range(10))))
        self.told(False, "rising(whole(0,9))", ([1, 0], [0, 2, 1], [0, 9, 8, 9], (), (0, 1), [0, 10], [0, True], None))
        self.told(True, "rising(text(ba))", (["", "b", "a", "bb", "ba", "ab", "aa"], ["", ""], ["a", "bb"]))
        self.told(False, "rising(text(ba))", (["a", "b"], ["bb", "a"], ["a", ""], ["ab", "ba"]))

    def test_unlike_ones(self):
        self.told(True, "unlike(whole(0,9))", ([], [9], [0, 1], list(range(10))))
        self.told(False, "unlike(whole(0,9))", (
            [0, 0], [1, 0], [0, 1, 1], [0, 1, 0], (), (0, 1), [0, 10], [False, 1], "", {}))
        self.told(True, "unlike(row())", ([], [()]))
        self.told(False, "unlike(row())", ([(), ()],))

    def test_alike_ones(self):
        self.told(True, "alike(whole(0,9),3)", ([0, 0, 0], [9, 9, 9]))
        self.told(False, "alike(whole(0,9),3)", (
            [], [0], [0, 0], [0] * 4, [0, 0, 1], [1, 0, 0], [0, 1, 0], (0, 0, 0), [10] * 3, [True] * 3, [0, 0, False]))
        self.told(True, "alike(many(row()),1)", ([[]], [[(), ()]]))
        self.told(True, "alike(many(row()),6)", ([[]] * 6, [[()] for _ in range(6)]))
        self.told(False, "alike(many(row()),6)", ([[]] * 5, [[]] * 7, [[]] * 5 + [[()]], [()] * 6))

    def test_lists_within_lists_rise_by_size_first(self):
        self.told(True, "rising(many(whole(0,1)))", ([[], [0], [0, 0], [1], [0, 0, 0]], [[0, 0], [1], [0, 1]]))
        self.told(False, "rising(many(whole(0,1)))", ([[0, 0], [0]], [[1], [0, 0]], [[0, 0, 0], [1, 0], [0, 1]], [[0], []]))
        self.told(True, "unlike(unlike(whole(0,3)))", ([[], [0], [1], [2], [3], [0, 1]],))
        self.told(False, "unlike(unlike(whole(0,3)))", ([[], [0], [0]], [[], [1, 0]], [[2], [0, 1], [1]]))

    def test_all_lists_of_small_things(self):
        part = read_shape("pick(b:whole(0,3),a:row())")
        things = [("b", 0), ("a", ()), ("b", 1), ("b", 2), ("b", 3)]
        for length in range(5):
            for places in itertools.product(range(5), repeat=length):
                value = [things[place] for place in places]
                rising = all(one <= other for one, other in zip(places, places[1:]))
                unlike = all(one < other for one, other in zip(places, places[1:]))
                self.assertIs(fits([], ("rising", part), value), rising)
                self.assertIs(fits([], ("unlike", part), value), unlike)
                for times in (1, 2, 3):
                    alike = length == times and len(set(places)) == 1
                    self.assertIs(fits([], ("alike", part, times), value), alike)


class OfAnythingTest(unittest.TestCase):
    def refused(self, asked, thing):
        with self.assertRaises(NoValue) as caught:
            asked()
        self.assertIs(caught.exception.value, thing)

    def test_things_of_all_kinds(self):
        for sample in SAMPLES:
            book, shape = read_sample(sample)
            right = plain_values(book, shape, 1) + plain_values(book, shape, 2)
            for place, thing in enumerate(ANYTHING):
                with self.subTest(sample=sample, place=place):
                    answer = fits(book, shape, thing)
                    self.assertIn(answer, (True, False))
                    if not answer:
                        self.refused(lambda: size_of(book, shape, thing), thing)
                        self.refused(lambda: compared(book, shape, thing, thing), thing)
                        for value in right[:1]:
                            self.refused(lambda: compared(book, shape, thing, value), thing)
                            self.refused(lambda: compared(book, shape, value, thing), thing)

    def test_things_of_all_kinds_at_all_places(self):
        book = TREE
        leaf = ("leaf", 0)
        cases = (
            ("row(whole(0,1),bit)", lambda thing: ((thing, 0), (0, thing), (thing, thing))),
            ("many(text(ab))", lambda thing: ([thing], ["a", thing], [thing, "a"])),
            ("rising(text(ab))", lambda thing: ([thing], ["a", thing], [thing, "a"], [thing, thing])),
            ("unlike(whole(5,9))", lambda thing: ([thing], [5, thing], [thing, 5], [thing, thing])),
            ("alike(whole(5,9),2)", lambda thing: ([5, thing], [thing, 5], [thing, thing])),
            ("tree", lambda thing: (("leaf", thing), (thing, 0), ("node", (thing, leaf)), ("node", (leaf, thing)))),
            ("many(rising(tree))", lambda thing: ([[thing]], [[leaf, thing]], [[leaf], thing], [thing, [leaf]])),
        )
        for text, made in cases:
            shape = read_shape(text)
            inner = [0, 1, "", "a", "ab", [], ("leaf", 0), "leaf"]
            for thing in ANYTHING:
                if any(type(thing) is type(each) for each in inner):
                    continue
                for value in made(thing):
                    self.assertIs(fits(book, shape, value), False, text)
                    self.refused(lambda: size_of(book, shape, value), value)


class SizeOfTest(unittest.TestCase):
    def told(self, text, sizes, book=()):
        for value, size in sizes:
            with self.subTest(shape=text, value=value):
                told = size_of(list(book), read_shape(text), value)
                self.assertEqual(told, size)
                self.assertIs(type(told), int)

    def test_wholes(self):
        self.told("whole(0,100)", ((0, 0), (1, 1), (2, 2), (3, 2), (4, 3), (7, 3), (8, 4), (64, 7), (100, 7)))
        self.told("whole(-3,10)", ((-3, 0), (-2, 1), (-1, 2), (0, 2), (1, 3), (4, 3), (5, 4), (10, 4)))
        great = 10 ** 60 - 1
        self.told(f"whole(-{great},{great})", ((-great, 0), (great, (2 * great).bit_length()), (0, great.bit_length())))

    def test_texts(self):
        self.told("text(ab)", (("", 0), ("a", 1), ("b", 1), ("abab", 4), ("b" * 2000, 2000)))

    def test_rows(self):
        self.told("row()", (((), 0),))
        self.told("row(whole(0,9),text(ab),row())", (((0, "", ()), 0), ((5, "ab", ()), 5)))

    def test_lists(self):
        for kind in ("many", "rising", "unlike"):
            self.told(f"{kind}(whole(0,9))", (([], 0), ([0], 1), ([1], 2), ([0, 1, 9], 3 + 5)))
            self.told(f"{kind}(text(a))", ((["", "aa"], 4),))
        self.told("many(row())", (([()] * 2000, 2000),))
        self.told("alike(whole(0,9),3)", (([0] * 3, 3), ([1] * 3, 6), ([9] * 3, 15)))
        self.told("alike(row(),6)", (([()] * 6, 6),))
        self.told("many(many(whole(0,1)))", (([[], [1], [0, 0]], 3 + 2 + 2),))

    def test_picks(self):
        self.told("pick(a:whole(0,9),b:text(ab))", ((("a", 0), 0), (("b", ""), 0), (("a", 9), 4), (("b", "ab"), 2)))

    def test_uses(self):
        self.told("bit", ((0, 1), (1, 2)), TREE)
        self.told("more", ((0, 2), (1, 3)), TREE)
        leaf = ("leaf", 1)
        self.told("tree", ((("leaf", 0), 1), (leaf, 2), (("node", (leaf, ("leaf", 0))), 4)), TREE)
        self.told("many(more)", (([0, 1], 2 + 2 + 3),), TREE)

    def test_samples(self):
        for sample in SAMPLES:
            book, shape = read_sample(sample)
            for size in range(5):
                for value in plain_values(book, shape, size):
                    self.assertIs(fits(book, shape, value), True)
                    self.assertEqual(size_of(book, shape, value), size)
                    self.assertEqual(plain_size(book, shape, value), size)


class ComparedTest(unittest.TestCase):
    def in_order(self, text, values, book=()):
        shape = read_shape(text)
        for one, other in itertools.product(enumerate(values), repeat=2):
            with self.subTest(shape=text, one=one[1], other=other[1]):
                told = compared(list(book), shape, one[1], other[1])
                self.assertEqual(told, (one[0] > other[0]) - (one[0] < other[0]))
                self.assertIs(type(told), int)

    def test_wholes(self):
        self.in_order("whole(-3,10)", list(range(-3, 11)))

    def test_texts(self):
        self.in_order("text(ba0)", ["", "b", "a", "0", "bb", "ba", "b0", "ab", "0b", "00", "bbb"])

    def test_rows(self):
        self.in_order("row(whole(0,9),text(ab))", [
            (0, ""), (0, "a"), (0, "b"), (1, ""), (0, "aa"), (0, "ab"), (0, "ba"), (1, "a"), (1, "b"), (2, ""), (3, ""),
            (0, "aaa")])

    def test_manys(self):
        self.in_order("many(whole(0,9))", [[], [0], [0, 0], [1], [0, 0, 0], [0, 1], [1, 0], [2], [3]])

    def test_picks(self):
        self.in_order("pick(b:whole(0,9),a:text(ab))", [
            ("b", 0), ("a", ""), ("b", 1), ("a", "a"), ("a", "b"), ("b", 2), ("b", 3), ("a", "aa"), ("a", "bb")])

    def test_uses(self):
        self.in_order("more", [0, 1], TREE)
        leaf = ("leaf", 0)
        other = ("leaf", 1)
        self.in_order("tree", [
            leaf, other, ("node", (leaf, leaf)), ("node", (leaf, other)), ("node", (other, leaf)),
            ("node", (leaf, ("node", (leaf, leaf))))], TREE)

    def test_alike_ones(self):
        self.in_order("alike(text(ba),2)", [["", ""], ["b", "b"], ["a", "a"], ["bb", "bb"], ["ba", "ba"]])

    def test_rising_ones_by_the_least_size_in_which_they_differ(self):
        self.in_order("rising(text(ab))", [
            [], [""],
            ["a"], ["b"], ["", ""],
            ["aa"], ["ab"], ["ba"], ["bb"], ["", "a"], ["", "b"], ["", "", ""]])
        self.in_order("rising(text(ab))", [
            ["aaa"], ["a", "a"], ["a", "b"], ["b", "b"], ["", "aa"], ["", "bb"], ["", "", "a"], [""] * 4])

    def test_unlike_ones_by_the_least_size_in_which_they_differ(self):
        self.in_order("unlike(text(abc))", [
            [], [""], ["a"], ["b"], ["c"], ["aa"], ["cc"], ["", "a"], ["", "c"]])
        self.in_order("unlike(text(abc))", [
            ["aaa"], ["ccc"], ["a", "b"], ["a", "c"], ["b", "c"], ["", "aa"], ["", "cc"]])
        self.in_order("unlike(text(abcd))", [
            ["a", "b", "c"], ["a", "b", "d"], ["a", "c", "d"], ["b", "c", "d"], ["", "aaaa"], ["", "a", "aa"]])

    def test_as_many_of_a_size_but_other_ones_of_the_next(self):
        self.in_order("rising(text(ab))", [
            ["a", "b", "aa"], ["a", "b", "bb"], ["b", "b", "aa"], ["", "a", "aaa"], ["", "a", "a", "a"]])

    def test_samples(self):
        for sample in SAMPLES:
            book, shape = read_sample(sample)
            values = [value for size in range(4) for value in plain_values(book, shape, size)]
            for one, other in itertools.product(values[:40], repeat=2):
                self.assertEqual(compared(book, shape, one, other), plain_compared(book, shape, one, other))

    def test_refused_with_the_first_that_is_not_of_the_shape(self):
        shape = read_shape("many(whole(0,9))")
        for one, other, first in (([10], [0], 0), ([0], [10], 1), ([10], [11], 0), (None, (), 0), ([0], None, 1)):
            with self.assertRaises(NoValue) as caught:
                compared([], shape, one, other)
            self.assertIs(caught.exception.value, (one, other)[first])


class BoundsTest(unittest.TestCase):
    def test_a_hundred_and_twenty_shapes_within_one_another(self):
        for book, shape, value in deep_samples():
            self.assertIs(fits(book, shape, value), True)
            self.assertEqual(size_of(book, shape, value), plain_size(book, shape, value))
            self.assertEqual(compared(book, shape, value, copy.deepcopy(value)), 0)

    def test_deep_values_that_differ_only_within(self):
        book = read_book("deep=pick(end:whole(0,3),more:rising(deep))")
        one = ("end", 2)
        other = ("end", 3)
        for _ in range(39):
            one = ("more", [one])
            other = ("more", [other])
        self.assertEqual(compared(book, ("use", "deep"), one, other), -1)
        self.assertEqual(compared(book, ("use", "deep"), other, one), 1)
        self.assertIs(fits(book, ("rising", ("use", "deep")), [one, other, other]), True)
        self.assertIs(fits(book, ("unlike", ("use", "deep")), [one, other, other]), False)
        self.assertIs(fits(book, ("rising", ("use", "deep")), [other, one]), False)

    def test_great_values_are_answered_at_once(self):
        part = "row(whole(0,9),text(ab))"
        things = [(each % 10, "ab" * 10) for each in range(2000)]
        self.assertIs(fits([], read_shape(f"many({part})"), things), True)
        risen = sorted(things)
        self.assertIs(fits([], read_shape(f"rising({part})"), risen), True)
        self.assertIs(fits([], read_shape(f"rising({part})"), risen[::-1]), False)
        self.assertEqual(compared([], read_shape(f"rising({part})"), risen, risen[:-1]), 1)
        great = 10 ** 60 - 1
        self.assertEqual(size_of([], ("unlike", ("whole", 0, great)), [0, great]), 2 + great.bit_length())

    def test_what_is_handed_in_stays(self):
        book = read_book("a=rising(b)\nb=many(whole(0,9))")
        shape = read_shape("row(a,a)")
        one = ([[], [3, 1]], [[0]])
        other = ([[0], [3, 1]], [])
        kept = copy.deepcopy((book, one, other))
        fits(book, shape, one)
        size_of(book, shape, one)
        compared(book, shape, one, other)
        self.assertEqual((book, one, other), kept)


if __name__ == "__main__":
    unittest.main()
