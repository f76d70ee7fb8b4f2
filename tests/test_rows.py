import copy
import itertools
import unittest

from countgen.deeds import apart, deed_judge
from countgen.errors import NoBreach, NoValue
from countgen.judging import fits, size_of
from countgen.rows import cuts, shrunk_deeds
from countgen.shapes import read_shape
from countgen.sieve import all_values
from countgen.steps import steps_of
from tests.plainly import SAMPLES, at_once, lists_within, plain_steps, read_sample
from tests.test_deeds import DEED, TAKE, empty, nothing, put, queue_and_stack, queue_done
from tests.test_judging import ANYTHING

NUMBER = read_shape("whole(0,9)")


def cuts_plainly(deeds):
    told = []
    for length in [len(deeds) // 2 ** by for by in range(len(deeds).bit_length())]:
        for begin in range(0, len(deeds), length):
            told.append([deed for place, deed in enumerate(deeds) if not begin <= place < begin + length])
    return told


def parting_at(is_parted):
    """Four functions that go apart at a deed where the list up to it is so."""
    def done(state, deed):
        state.append(deed)
        return state, is_parted(list(state))

    def model_done(state, deed):
        return state, False

    return empty, done, nothing, model_done


class CutsTest(unittest.TestCase):
    def test_few(self):
        for deeds, told in (
                ("", []), ("a", [""]), ("ab", ["", "b", "a"]), ("abc", ["", "bc", "ac", "ab"]),
                ("abcd", ["", "cd", "ab", "bcd", "acd", "abd", "abc"]),
                ("abcde", ["", "cde", "abe", "abcd", "bcde", "acde", "abde", "abce", "abcd"])):
            self.assertEqual(cuts(list(deeds)), [list(each) for each in told], deeds)

    def test_forty(self):
        deeds = list(range(40))
        told = cuts(deeds)
        self.assertEqual(told, cuts_plainly(deeds))
        self.assertEqual(len(told), 1 + 2 + 4 + 8 + 20 + 40)
        self.assertEqual([len(each) for each in told[:7]], [0, 20, 20, 30, 30, 30, 30])
        self.assertEqual(deeds, list(range(40)))

    def test_all_lengths(self):
        for length in range(70):
            deeds = [("deed", number) for number in range(length)]
            self.assertEqual(cuts(deeds), cuts_plainly(deeds))

    def test_deeds_that_come_twice(self):
        self.assertEqual(cuts([1, 1]), [[], [1], [1]])
        self.assertEqual(cuts([1, 2, 1]), [[], [2, 1], [1, 1], [1, 2]])

    def test_each_with_lists_of_its_own(self):
        inner = [1]
        deeds = [[inner], ("a", inner, [inner]), inner, inner]
        kept = copy.deepcopy(deeds)
        first = cuts(deeds)
        lists = [id(each) for each in lists_within([first, cuts(deeds)])]
        self.assertEqual(len(lists), len(set(lists)))
        self.assertEqual(set(lists) & {id(each) for each in lists_within(deeds)}, set())
        answer = copy.deepcopy(first)
        for each in lists_within(first):
            each.append(7)
        self.assertEqual(deeds, kept)
        self.assertEqual(cuts(deeds), answer)


class ShrunkDeedsTest(unittest.TestCase):
    def refused(self, error, asked):
        with self.assertRaises(error) as caught:
            asked()
        self.assertIs(type(caught.exception), error)
        return caught.exception

    def test_queue_and_stack(self):
        deeds = [TAKE, put(3), put(5), put(5), TAKE, put(1)]
        kept = list(deeds)
        told = shrunk_deeds([], DEED, *queue_and_stack(), deeds)
        self.assertEqual(told, [
            deeds,
            [put(3), put(5), put(5), TAKE, put(1)],
            [put(3), put(5), put(5), TAKE],
            [put(3), put(5), TAKE],
            [put(0), put(5), TAKE],
            [put(0), put(1), TAKE]])
        self.assertEqual(deeds, kept)

    def test_each_next_one_is_the_first(self):
        for length in range(7):
            for deeds in itertools.product((put(0), put(2), TAKE), repeat=length):
                self.is_shrunk([], DEED, queue_and_stack(), list(deeds))

    def is_shrunk(self, book, shape, functions, deeds):
        if apart(*functions, deeds) is None:
            self.refused(NoBreach, lambda: shrunk_deeds(book, shape, *functions, deeds))
            return
        told = shrunk_deeds(book, shape, *functions, deeds)
        self.assertEqual(told[0], deeds)
        for one, other in zip(told, told[1:] + [None]):
            nexts = cuts_plainly(one) + plain_steps(book, ("many", shape), one)
            left = [each for each in nexts if apart(*functions, each) is not None]
            self.assertEqual(left[:1], [] if other is None else [other])
        sizes = [size_of(book, ("many", shape), each) for each in told]
        self.assertEqual(sizes, sorted(set(sizes), reverse=True))

    def test_cuts_ahead_of_steps(self):
        # The steps of this list, but for those without one deed, leave three: only cuts take two at once.
        functions = parting_at(lambda deeds: deeds in ([9, 9, 9, 9], [9, 9], [4, 9, 9, 9], [9, 9, 9]))
        told = shrunk_deeds([], NUMBER, *functions, [9, 9, 9, 9])
        self.assertEqual(told, [[9, 9, 9, 9], [9, 9]])
        functions = parting_at(lambda deeds: deeds in ([9, 9, 9, 9], [4, 9, 9, 9], [9, 9, 9]))
        self.assertEqual(shrunk_deeds([], NUMBER, *functions, [9, 9, 9, 9]), [[9, 9, 9, 9], [9, 9, 9]])
        functions = parting_at(lambda deeds: deeds in ([9, 9, 9, 9], [9, 4, 9, 9], [9, 9, 9, 4]))
        self.assertEqual(shrunk_deeds([], NUMBER, *functions, [9, 9, 9, 9]), [[9, 9, 9, 9], [9, 4, 9, 9]])

    def test_steps_alone_are_left(self):
        functions = parting_at(lambda deeds: len(deeds) == 2 and sum(deeds) > 7)
        self.assertEqual(shrunk_deeds([], NUMBER, *functions, [9, 9]), [[9, 9], [0, 9]])
        self.assertEqual(shrunk_deeds([], NUMBER, *functions, [9, 1, 0]), [[9, 1, 0], [9, 0]])

    def test_other_shapes(self):
        book, shape = read_sample(("tree=pick(leaf:whole(0,1),node:many(tree))", "tree"))
        for functions in (parting_at(lambda deeds: "node" in repr(deeds)), parting_at(lambda deeds: "1" in repr(deeds)),
                          parting_at(lambda deeds: len(repr(deeds)) > 40)):
            for size in range(7):
                for deeds in all_values(book, ("many", shape), size):
                    self.is_shrunk(book, shape, functions, deeds)

    def test_size_sixteen(self):
        functions = parting_at(lambda deeds: sum(deeds) >= 20)
        deeds = [7, 7, 7, 7]
        self.assertEqual(size_of([], ("many", NUMBER), deeds), 16)
        with at_once():
            told = shrunk_deeds([], NUMBER, *functions, deeds)
        self.assertEqual(told, [[7, 7, 7, 7], [7, 7, 7]])
        sixteen = [()] * 16
        told = shrunk_deeds([], ("row", ()), *parting_at(lambda deeds: len(deeds) > 2), sixteen)
        self.assertEqual([len(each) for each in told], [16, 8, 4, 3])

    def test_the_last_one_has_none(self):
        told = shrunk_deeds([], DEED, *queue_and_stack(), [put(4), put(9), put(4), put(5), TAKE])
        judge = deed_judge(*queue_and_stack())
        self.assertTrue(all(judge(each) is False for each in told))
        last = told[-1]
        self.assertTrue(all(judge(each) for each in cuts(last) + steps_of([], ("many", DEED), last)))

    def test_they_do_not_go_apart(self):
        for deeds in ([], [TAKE], [put(1), TAKE], [put(1), put(1), TAKE]):
            self.refused(NoBreach, lambda: shrunk_deeds([], DEED, *queue_and_stack(), deeds))
        self.refused(NoBreach, lambda: shrunk_deeds([], DEED, empty, queue_done, empty, queue_done, [put(1), put(2), TAKE]))

    def test_no_many_of_the_shape(self):
        def never(*things):
            raise AssertionError("nothing is to be done")

        for sample in SAMPLES:
            book, shape = read_sample(sample)
            for place, thing in enumerate(ANYTHING):
                if not fits(book, ("many", shape), thing):
                    caught = self.refused(NoValue, lambda: shrunk_deeds(book, shape, never, never, never, never, thing))
                    self.assertIs(caught.value, thing)

    def test_no_value_ahead_of_no_breach(self):
        for deeds in ([put(10)], [put(1), put(2), TAKE, put(-1)], (put(1), put(2), TAKE), [put(True)], [["take", ()]], put(1), None):
            caught = self.refused(NoValue, lambda: shrunk_deeds([], DEED, *queue_and_stack(), deeds))
            self.assertIs(caught.value, deeds)

    def test_done_and_model_that_change_deeds(self):
        def spoils(state, deed):
            answer = len(deed) > 1
            deed.clear()
            return state, answer

        def plain(state, deed):
            deed.append(0)
            return state, False

        deeds = [[1], [2, 1], []]
        shape = read_shape("many(whole(0,3))")
        told = shrunk_deeds([], shape, nothing, spoils, nothing, plain, deeds)
        self.assertEqual(told, [[[1], [2, 1], []], [[2, 1], []], [[2, 1]], [[0, 1]], [[0, 0]]])
        self.assertEqual(deeds, [[1], [2, 1], []])

    def test_lists_are_the_askers_own(self):
        shape = read_shape("many(many(row()))")
        functions = parting_at(lambda deeds: len(deeds) > 1)
        deeds = [[[()]], [[], [()]], []]
        kept = copy.deepcopy(deeds)
        first = shrunk_deeds([], shape, *functions, deeds)
        answer = copy.deepcopy(first)
        lists = [id(each) for each in lists_within([first, shrunk_deeds([], shape, *functions, deeds), deeds])]
        self.assertEqual(len(lists), len(set(lists)))
        for each in lists_within(first):
            each.append(7)
        self.assertEqual(deeds, kept)
        self.assertEqual(shrunk_deeds([], shape, *functions, deeds), answer)


if __name__ == "__main__":
    unittest.main()
