import copy
import unittest

from countgen.books import read_book
from countgen.counts import counted
from countgen.errors import NoValue
from countgen.judging import fits, size_of
from countgen.shapes import read_shape
from countgen.steps import steps_of
from countgen.telling import value_at
from tests.plainly import SAMPLES, at_once, lists_within, plain_steps, plain_values, read_sample
from tests.test_judging import ANYTHING

TREE = read_book("tree=pick(leaf:whole(0,3),node:row(tree,tree))")


def leaf(number):
    return ("leaf", number)


def node(one, other):
    return ("node", (one, other))


class StepsCase(unittest.TestCase):
    def told(self, text, value, steps, book=()):
        with self.subTest(shape=text, value=value):
            kept = copy.deepcopy(value)
            told = steps_of(list(book), read_shape(text), value)
            self.assertEqual(told, steps)
            self.assertEqual(repr(told), repr(steps))
            self.assertIs(type(told), list)
            self.assertEqual(value, kept)


class KindsTest(StepsCase):
    def test_whole(self):
        for low in (0, -3, 5, -10 ** 59):
            text = f"whole({low},{low + 100})"
            for distance, steps in ((0, []), (1, [0]), (2, [0, 1]), (3, [0, 1]), (4, [0, 1, 2]), (13, [0, 1, 3, 6]),
                                    (64, [0, 1, 2, 4, 8, 16, 32]), (100, [0, 1, 3, 6, 12, 25, 50])):
                self.told(text, low + distance, [low + step for step in steps])

    def test_great_whole_numbers(self):
        high = 2 ** 16 - 1
        self.told(f"whole(0,{high})", high, [2 ** by - 1 for by in range(16)])

    def test_text(self):
        self.told("text(abc)", "", [])
        self.told("text(abc)", "b", [""])
        self.told("text(abc)", "abc", ["bc", "ac", "ab"])
        self.told("text(abc)", "aab", ["ab", "ab", "aa"])
        self.told("text(a)", "a" * 16, ["a" * 15] * 16)

    def test_row(self):
        self.told("row()", (), [])
        self.told("row(whole(0,9))", (2,), [(0,), (1,)])
        self.told("row(whole(0,9),text(ab))", (4, "ab"), [(0, "ab"), (1, "ab"), (2, "ab"), (4, "b"), (4, "a")])
        self.told("row(whole(0,9),text(ab))", (0, ""), [])
        eight = "row(" + ",".join(["whole(0,1)"] * 8) + ")"
        self.told(eight, (1,) * 8, [(1,) * place + (0,) + (1,) * (7 - place) for place in range(8)])
        self.told(eight, (0, 0, 1, 0, 0, 0, 0, 1), [(0, 0, 0, 0, 0, 0, 0, 1), (0, 0, 1, 0, 0, 0, 0, 0)])

    def test_many(self):
        self.told("many(whole(0,9))", [], [])
        self.told("many(whole(0,9))", [0], [[]])
        self.told("many(whole(0,9))", [2, 1], [[1], [2], [0, 1], [1, 1], [2, 0]])
        self.told("many(text(ab))", ["ab", "ab"], [["ab"], ["ab"], ["b", "ab"], ["a", "ab"], ["ab", "b"], ["ab", "a"]])
        self.told("many(many(row()))", [[()], []], [[[]], [[()]], [[], []]])

    def test_rising(self):
        self.told("rising(whole(0,9))", [], [])
        self.told("rising(whole(0,9))", [2, 2], [[2], [2], [0, 2], [1, 2]])
        self.told("rising(whole(0,9))", [1, 4, 9], [[4, 9], [1, 9], [1, 4], [0, 4, 9], [1, 1, 9], [1, 2, 9], [1, 4, 4]])
        self.told("rising(text(ba))", ["b", "a"], [["a"], ["b"], ["", "a"]])

    def test_unlike(self):
        self.told("unlike(whole(0,9))", [], [])
        self.told("unlike(whole(0,9))", [1, 4, 9], [[4, 9], [1, 9], [1, 4], [0, 4, 9], [1, 2, 9]])
        self.told("unlike(text(ab))", ["", "a", "bb"], [["a", "bb"], ["", "bb"], ["", "a"], ["", "a", "b"], ["", "a", "b"]])
        self.told("unlike(many(row()))", [[], [()]], [[[()]], [[]]])

    def test_alike(self):
        self.told("alike(whole(0,9),1)", [0], [])
        self.told("alike(whole(0,9),1)", [5], [[0], [1], [2]])
        self.told("alike(whole(0,9),6)", [3] * 6, [[0] * 6, [1] * 6])
        self.told("alike(text(ab),2)", ["ab", "ab"], [["b", "b"], ["a", "a"]])
        self.told("alike(row(),6)", [()] * 6, [])
        self.told("alike(many(whole(0,1)),3)", [[1]] * 3, [[[]] * 3, [[0]] * 3])

    def test_pick_at_the_first_branch(self):
        self.told("pick(a:whole(0,9),b:text(ab))", ("a", 0), [])
        self.told("pick(a:whole(0,9),b:text(ab))", ("a", 4), [("a", 0), ("a", 1), ("a", 2)])

    def test_pick_at_later_branches(self):
        text = "pick(a:whole(2,9),b:text(ab),c:row(text(x)))"
        self.told(text, ("b", ""), [])
        self.told(text, ("b", "ab"), [("a", 2), ("b", "b"), ("b", "a")])
        self.told(text, ("c", ("x",)), [("a", 2), ("b", ""), ("c", ("",))])
        self.told(text, ("c", ("",)), [])

    def test_branches_without_a_value_below_the_size(self):
        text = "pick(a:alike(row(),3),b:never,c:alike(text(ba),1),d:whole(0,99))"
        book = read_book("never=row(never)")
        self.told(text, ("d", 99), [
            ("a", [(), (), ()]), ("c", [""]), ("d", 0), ("d", 1), ("d", 3), ("d", 6), ("d", 12), ("d", 24), ("d", 49)], book)
        # Of size 3: the three of the first branch are of that size, not below it.
        self.told(text, ("d", 4), [("c", [""]), ("d", 0), ("d", 1), ("d", 2)], book)
        self.told(text, ("d", 1), [("d", 0)], book)
        self.told(text, ("c", ["b"]), [("c", [""])], book)

    def test_the_size_of_a_pick_within_others_is_its_own(self):
        text = "row(text(ab),pick(a:alike(row(),2),b:text(ab)))"
        self.told(text, ("aaa", ("b", "ab")), [("aa", ("b", "ab"))] * 3 + [("aaa", ("b", "b")), ("aaa", ("b", "a"))])
        self.told(text, ("", ("b", "aba")), [("", ("a", [(), ()])), ("", ("b", "ba")), ("", ("b", "aa")), ("", ("b", "ab"))])


class UsesTest(StepsCase):
    def test_use_of_a_plain_shape(self):
        book = read_book("bit=whole(0,9)\nmore=bit")
        self.told("bit", 4, [0, 1, 2], book)
        self.told("more", 4, [0, 1, 2], book)
        self.told("bit", 0, [], book)

    def test_things_within_come_first(self):
        one, other = leaf(1), leaf(0)
        self.told("tree", node(one, other), [one, other, ("leaf", 0), node(leaf(0), other)], TREE)

    def test_each_ahead_of_those_within_it(self):
        left = node(leaf(0), leaf(1))
        value = node(left, leaf(2))
        self.told("tree", value, [
            # what stands there at a use of tree
            left, leaf(0), leaf(1), leaf(2),
            # the branch ahead, then the steps of the left one, then of the right one
            leaf(0),
            node(leaf(0), leaf(2)), node(leaf(1), leaf(2)), node(leaf(0), leaf(2)),
            node(node(leaf(0), leaf(0)), leaf(2)),
            node(left, leaf(0)), node(left, leaf(1))], TREE)

    def test_in_lists(self):
        book = read_book("tree=pick(leaf:row(),node:many(tree))")
        end = ("leaf", ())
        value = ("node", [("node", [end]), end])
        self.told("tree", value, [
            ("node", [end]), end, end, end, ("node", [end]), ("node", [("node", [end])]),
            ("node", [end, end]), ("node", [end, end]), ("node", [("node", []), end])], book)

    def test_in_all_kinds_of_lists(self):
        for kind in ("many", "rising", "unlike"):
            book = read_book(f"tree=pick(leaf:row(),node:{kind}(tree))")
            end = ("leaf", ())
            inner = ("node", [end])
            told = steps_of(book, ("use", "tree"), ("node", [inner]))
            self.assertEqual(told[:3], [inner, end, end])
        book = read_book("tree=pick(leaf:row(),node:alike(tree,2))")
        told = steps_of(book, ("use", "tree"), ("node", [end, end]))
        self.assertEqual(told, [end, end, end])

    def test_by_other_names(self):
        book = read_book("odd=pick(end:row(),more:row(text(a),even))\neven=row(text(b),odd)")
        end = ("end", ())
        inner = ("more", ("", ("b", end)))
        value = ("more", ("a", ("", inner)))
        self.told("odd", value, [
            inner, end, end, ("more", ("", ("", inner))),
            # by even: what stands there at a use of even, then its steps
            ("more", ("a", ("b", end))), ("more", ("a", ("", end))), ("more", ("a", ("", end))),
            ("more", ("a", ("", ("more", ("", ("", end)))))),
        ], book)

    def test_a_name_whose_shape_is_another_name(self):
        book = read_book("one=two\ntwo=pick(end:whole(0,1),more:one,twice:row(two,one))")
        value = ("more", ("end", 1))
        # The inner one stands at a use of one, and as its shape is a use of two, at such a one too.
        self.told("one", value, [("end", 1), ("end", 1), ("end", 0), ("more", ("end", 0))], book)
        self.told("two", value, [("end", 1), ("end", 0), ("more", ("end", 0))], book)

    def test_other_names_are_not_taken(self):
        book = read_book("a=row(b,b)\nb=whole(0,3)")
        self.told("a", (1, 2), [(0, 2), (1, 0), (1, 1)], book)

    def test_a_use_within_other_shapes(self):
        value = [node(leaf(1), leaf(0))]
        inner = steps_of(TREE, ("use", "tree"), value[0])
        self.told("many(tree)", value, [[]] + [[step] for step in inner], TREE)
        self.told("row(tree,tree)", (leaf(0), value[0]), [(leaf(0), step) for step in inner], TREE)


class AllTest(StepsCase):
    def test_samples(self):
        for sample in SAMPLES:
            book, shape = read_sample(sample)
            for size in range(6):
                if counted(book, shape, size) <= 150:
                    for value in plain_values(book, shape, size):
                        told = steps_of(book, shape, value)
                        self.assertEqual(told, plain_steps(book, shape, value), (sample, value))
                        self.assertTrue(all(size_of(book, shape, step) < size for step in told))

    def test_up_to_size_sixteen(self):
        for sample in SAMPLES:
            book, shape = read_sample(sample)
            for size in (9, 12, 15, 16):
                count = counted(book, shape, size)
                for number in sorted({0, count // 3, count // 2, count * 4 // 5, count - 1}):
                    if 0 <= number < count:
                        value = value_at(book, shape, size, number)
                        with at_once():
                            told = steps_of(book, shape, value)
                        for step in told:
                            self.assertTrue(fits(book, shape, step), (sample, value, step))
                            self.assertLess(size_of(book, shape, step), size)
                        self.assertTrue(told, (sample, value))

    def test_deep_ones_of_size_sixteen(self):
        book = read_book("deep=pick(end:row(),more:row(row(row(row(row(deep))))))")
        value = ("end", ())
        inner = [value]
        for _ in range(15):
            value = ("more", (((((value,),),),),))
            inner.insert(0, value)
        self.assertEqual(size_of(book, ("use", "deep"), value), 16)
        told = steps_of(book, ("use", "deep"), value)
        self.assertEqual(told[:15], inner[1:])
        self.assertEqual(told[15], ("end", ()))

    def test_lists_are_the_askers_own(self):
        text = "row(many(many(whole(0,3))),alike(many(text(a)),2),pick(a:many(row()),b:many(many(row()))))"
        value = ([[1, 2], [3]], [["a"], ["a"]], ("b", [[()], []]))
        kept = copy.deepcopy(value)
        shape = read_shape(text)
        first = steps_of([], shape, value)
        answer = copy.deepcopy(first)
        lists = [id(each) for each in lists_within([first, steps_of([], shape, value), value])]
        self.assertEqual(len(lists), len(set(lists)))
        for each in lists_within(first):
            each.append(7)
        self.assertEqual(value, kept)
        self.assertEqual(steps_of([], shape, value), answer)

    def test_lists_of_uses_are_the_askers_own(self):
        book = read_book("bag=rising(bag)")
        value = [[], [[]], [[[]]]]
        told = steps_of(book, ("use", "bag"), value)
        lists = [id(each) for each in lists_within([told, value])]
        self.assertEqual(len(lists), len(set(lists)))
        self.assertEqual(book, read_book("bag=rising(bag)"))

    def test_what_is_not_of_the_shape(self):
        for sample in SAMPLES:
            book, shape = read_sample(sample)
            for place, thing in enumerate(ANYTHING):
                if not fits(book, shape, thing):
                    with self.subTest(sample=sample, place=place), self.assertRaises(NoValue) as caught:
                        steps_of(book, shape, thing)
                    self.assertIs(caught.exception.value, thing)

    def test_the_whole_is_refused_for_a_thing_within_it(self):
        value = [0, True]
        with self.assertRaises(NoValue) as caught:
            steps_of([], read_shape("many(whole(0,3))"), value)
        self.assertIs(caught.exception.value, value)


if __name__ == "__main__":
    unittest.main()
