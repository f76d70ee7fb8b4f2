"""The parts together: from texts to values, to a breach, to one that is at rest."""

import copy
import unittest

from countgen.books import read_book
from countgen.counts import counted, counts_to
from countgen.deeds import apart, deed_judge
from countgen.judging import compared, size_of
from countgen.kinds import kind_of, kinded_book, raw_book
from countgen.rows import cuts, shrunk_deeds
from countgen.sayings import judge_of, said
from countgen.shapes import read_shape
from countgen.shrinking import at_rest, shrunk
from countgen.sieve import all_values, alike_judge, rising_judge, sieved, unlike_judge
from countgen.steps import steps_of
from countgen.telling import number_of, value_at
from countgen.terms import read_term, show_term
from countgen.tries import drawn_values, tried, tried_drawn
from tests.plainly import SAMPLES, at_once, lists_within, read_sample
from tests.test_deeds import DEED, TAKE, put, queue_and_stack

TREE = "tree=pick(leaf:whole(0,3),node:many(tree))"


class FromTextsTest(unittest.TestCase):
    def read(self, book_text, shape_text, term_text):
        book = [] if book_text == "" else read_book(book_text)
        return book, read_shape(shape_text), judge_of(read_term(term_text))

    def test_a_breach_among_all_values_is_at_rest(self):
        # All lesser values hold, so no step of the first breach is one.
        for texts, size, breach in (
                (("", "many(whole(0,9))", "same(here,turned(here))"), 4, [0, 1]),
                (("", "many(text(ab))", "less(count(here),3)"), 5, ["", "", ""]),
                (("", "row(whole(0,9),whole(0,9))", "less(sum(here),5)"), 6, (0, 5)),
                ((TREE, "tree", "not(same(part(here,1),2))"), 5, ("leaf", 2)),
                (("set=unlike(set)", "set", "less(count(here),2)"), 9, [[], [[]]])):
            book, shape, judge = self.read(*texts)
            told = tried(book, shape, judge, size, 2000)
            self.assertEqual((told[0], told[2]), ("breach", breach))
            self.assertEqual(shrunk(book, shape, judge, told[2]), [breach])
            self.assertIs(at_rest(book, shape, judge, told[2]), True)

    def test_a_drawn_breach_is_shrunk(self):
        for texts, size in (
                (("", "many(whole(0,99))", "less(sum(here),40)"), 16), (("", "many(text(ab))", "less(count(here),3)"), 14),
                (("", "rising(whole(0,9))", "same(here,turned(here))"), 12),
                ((TREE, "tree", "less(count(part(here,1)),2)"), 13), ((TREE, "tree", "same(part(here,0),here)"), 9)):
            book, shape, judge = self.read(*texts)
            numbers = [number * 7919 % 10007 for number in range(1, 200)]
            word, tries, breach = tried_drawn(book, shape, judge, size, numbers, 10007 ** 9)
            self.assertEqual(word, "breach")
            told = shrunk(book, shape, judge, breach)
            sizes = [size_of(book, shape, each) for each in told]
            self.assertEqual(sizes[0], size)
            self.assertEqual(sizes, sorted(set(sizes), reverse=True))
            self.assertFalse(any(judge(each) for each in told))
            self.assertIs(at_rest(book, shape, judge, told[-1]), True)
            self.assertFalse(any(at_rest(book, shape, judge, each) for each in told[:-1]))

    def test_what_holds(self):
        book, shape, judge = self.read(TREE, "many(tree)", "same(here,turned(turned(here)))")
        count = sum(counts_to(book, shape, 4))
        self.assertEqual(tried(book, shape, judge, 4), ("held", count, None))
        self.assertEqual(tried_drawn(book, shape, judge, 9, list(range(50)), 10 ** 9), ("held", 50, None))

    def test_lists_counted_by_tables_and_by_a_judge(self):
        for text in ("whole(0,5)", "text(ba)", "tree"):
            book, part = read_book(TREE), read_shape(text)
            for kind, judge in (("rising", rising_judge(book, part)), ("unlike", unlike_judge(book, part))):
                for size in range(5):
                    left = sieved(book, ("many", part), size, judge)
                    self.assertEqual(len(left), counted(book, (kind, part), size))
                    self.assertCountEqual(left, all_values(book, (kind, part), size))
            for times in (1, 2, 3):
                for size in range(6):
                    left = sieved(book, ("many", part), size, alike_judge(times), 2000)
                    self.assertEqual(left, all_values(book, ("alike", part, times), size))

    def test_values_by_number_at_size_sixteen(self):
        for sample in SAMPLES:
            book, shape = read_sample(sample)
            count = counted(book, shape, 16)
            numbers = sorted({number for number in (0, 1, count // 7, count // 2, count - 2, count - 1) if 0 <= number < count})
            values = [value_at(book, shape, 16, number) for number in numbers]
            self.assertEqual([number_of(book, shape, value) for value in values], [(16, number) for number in numbers])
            for one, other in zip(values, values[1:]):
                self.assertEqual(compared(book, shape, one, other), -1)


class TermsTest(unittest.TestCase):
    def test_well_kinded_terms_are_tried(self):
        book = kinded_book(1)
        for name, kind in (("number", int), ("truth", bool)):
            shape = ("use", name)
            count = sum(counts_to(book, shape, 4))
            told = tried(book, shape, lambda term: type(said(term, 5)) is kind, 4, 2000)
            self.assertEqual(told, ("held", count, None))

    def test_a_term_that_is_not_well_kinded_is_shrunk(self):
        book, shape = raw_book(3), ("use", "term")
        term = read_term("when(less(here,1),plus(1,not(both(here,2))),plus(here,here))")

        def has_kind(each):
            return kind_of(each) is not None

        told = shrunk(book, shape, has_kind, term)
        self.assertEqual([show_term(each) for each in told], [
            "when(less(here,1),plus(1,not(both(here,2))),plus(here,here))", "plus(1,not(both(here,2)))",
            "not(both(here,2))", "both(here,2)", "not(0)"])
        self.assertIs(at_rest(book, shape, has_kind, told[-1]), True)


class DeedsTest(unittest.TestCase):
    def test_found_and_shrunk(self):
        judge = deed_judge(*queue_and_stack())
        many = ("many", DEED)
        word, tries, breach = tried([], many, judge, 4, 2000)
        self.assertEqual((word, breach), ("breach", [put(0), put(1), TAKE]))
        self.assertEqual(shrunk_deeds([], DEED, *queue_and_stack(), breach), [breach])
        drawn = drawn_values([], many, 16, [number * 7919 ** 3 for number in range(200)], 10 ** 30)
        parted = [deeds for deeds in drawn if apart(*queue_and_stack(), deeds) is not None]
        self.assertGreater(len(parted), 10)
        for deeds in parted:
            with at_once():
                told = shrunk_deeds([], DEED, *queue_and_stack(), deeds)
            self.assertEqual(told[0], deeds)
            self.assertFalse(any(judge(each) for each in told))
            self.assertTrue(all(judge(each) for each in cuts(told[-1]) + steps_of([], many, told[-1])))
            self.assertEqual(len(told[-1]), 3)
            # Without cuts there are the same steps; they too come to an end.
            self.assertIs(at_rest([], many, judge, shrunk([], many, judge, deeds)[-1]), True)


class OwnListsTest(unittest.TestCase):
    """Each answer is asked for twice; the first one's lists are all changed in between."""

    def test_answers_stay(self):
        book = read_book(TREE)
        shape = read_shape("many(alike(many(tree),2))")
        leaf = ("leaf", 1)
        value = [[[leaf], [leaf]], [[], []]]
        deeds = [value, [], value]

        def short(thing):
            return len(thing) < 2

        def done(state, deed):
            state.append(deed)
            return state, list(state)

        def model_done(state, deed):
            return state, [deed]

        thing = (list, done, list, model_done)
        asked = (
            lambda: all_values(book, shape, 10), lambda: sieved(book, shape, 10, short),
            lambda: value_at(book, shape, 10, 1), lambda: drawn_values(book, shape, 10, [0, 1, 1], 10 ** 9),
            lambda: said(("here", ()), value), lambda: said(read_term("joined(here,turned(here))"), value),
            lambda: list(tried(book, shape, short, 10)), lambda: list(tried_drawn(book, shape, short, 10, [0, 1, 2], 10 ** 9)),
            lambda: steps_of(book, shape, value), lambda: shrunk(book, shape, short, value),
            lambda: cuts(deeds), lambda: shrunk_deeds(book, shape, *thing, deeds))
        kept = copy.deepcopy((book, value, deeds))
        for place, ask in enumerate(asked):
            with self.subTest(place=place):
                first = ask()
                answer = copy.deepcopy(first)
                lists = [id(each) for each in lists_within(first)]
                self.assertEqual(len(lists), len(set(lists)))
                self.assertEqual(set(lists) & {id(each) for each in lists_within([book, deeds])}, set())
                for each in lists_within(first):
                    each.append(7)
                self.assertEqual(ask(), answer)
                self.assertEqual((book, value, deeds), kept)


if __name__ == "__main__":
    unittest.main()
