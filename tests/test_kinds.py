import itertools
import unittest

from countgen.books import read_book, show_book
from countgen.counts import counts_to
from countgen.kinds import kind_of, kinded_book, raw_book
from countgen.sayings import said
from countgen.sieve import all_values, sieved
from countgen.terms import read_term
from tests.plainly import plain_count, plain_values
from tests.test_terms import HERE, OF_TWO, deep_terms, each_mark, num

NUMBER = ("use", "number")
TRUTH = ("use", "truth")
TERM = ("use", "term")
# One term of each kind, and one of none.
BY_KIND = (("number", num(3)), ("truth", ("less", (HERE, num(1)))), (None, ("sum", HERE)))
RAW = """term=pick(num:whole(0,2),here:row(),plus:row(term,term),times:row(term,term),less:row(term,term),\
same:row(term,term),not:term,both:row(term,term),when:row(term,term,term))"""
KINDED = """number=pick(num:whole(0,2),here:row(),plus:row(number,number),times:row(number,number),\
when:row(truth,number,number))
truth=pick(less:row(number,number),same:row(number,number),not:truth,both:row(truth,truth),when:row(truth,truth,truth))"""


class KindOfTest(unittest.TestCase):
    def test_num_and_here(self):
        for term in (num(0), num(-5), num(10 ** 299), HERE):
            self.assertEqual(kind_of(term), "number")

    def test_two_inner_terms(self):
        told = {"plus": ("number", "number"), "times": ("number", "number"), "less": ("number", "truth"),
                "same": ("number", "truth"), "both": ("truth", "truth")}
        for mark in OF_TWO:
            for (first, one), (second, other) in itertools.product(BY_KIND, BY_KIND):
                asked, answer = told.get(mark, ("none", None))
                self.assertEqual(kind_of((mark, (one, other))), answer if first == second == asked else None, mark)

    def test_one_inner_term(self):
        for kind, term in BY_KIND:
            self.assertEqual(kind_of(("not", term)), "truth" if kind == "truth" else None)
            for mark in ("count", "sum", "turned"):
                self.assertIsNone(kind_of((mark, term)))
            self.assertIsNone(kind_of(("part", (term, 0))))

    def test_when(self):
        for first, second, third in itertools.product(BY_KIND, BY_KIND, BY_KIND):
            answer = second[0] if first[0] == "truth" and second[0] == third[0] else None
            self.assertEqual(kind_of(("when", (first[1], second[1], third[1]))), answer)

    def test_each_mark_with_here(self):
        numbers = [text for text, term in each_mark() if kind_of(term) == "number"]
        truths = [text for text, term in each_mark() if kind_of(term) == "truth"]
        self.assertEqual(numbers, ["7", "here", "plus(here,1)", "times(here,1)"])
        self.assertEqual(truths, ["less(here,1)", "same(here,1)"])

    def test_inner_terms_of_no_kind(self):
        for text in ("plus(1,count(here))", "less(part(here,0),1)", "not(not(here))", "both(less(1,2),here)",
                     "same(less(1,2),less(1,2))", "when(less(1,2),1,not(less(1,2)))", "each(here,less(1,2))",
                     "when(1,1,1)", "plus(plus(1,less(1,2)),1)", "when(each(here,less(0,1)),1,2)"):
            self.assertIsNone(kind_of(read_term(text)), text)

    def test_thirty_deep(self):
        for term, text in deep_terms(30):
            self.assertEqual(kind_of(term), "number" if term[0] in ("plus", "times") else None)
        deep = read_term("less(1,2)")
        for _ in range(28):
            deep = ("not", deep)
        self.assertEqual(kind_of(deep), "truth")


class BooksTest(unittest.TestCase):
    def test_just_as_told(self):
        self.assertEqual(raw_book(2), read_book(RAW))
        self.assertEqual(kinded_book(2), read_book(KINDED))
        self.assertEqual(show_book(raw_book(2)), RAW)
        self.assertEqual(show_book(kinded_book(2)), KINDED)

    def test_high_numbers(self):
        for high in (0, 1, 9, 10 ** 59, 10 ** 60 - 1):
            for book, text in ((raw_book(high), RAW), (kinded_book(high), KINDED)):
                self.assertEqual(show_book(book), text.replace("whole(0,2)", f"whole(0,{high})"))
                self.assertEqual(read_book(show_book(book)), book)

    def test_books_are_the_askers_own(self):
        for made in (raw_book, kinded_book):
            first = made(1)
            kept = list(first)
            first.clear()
            self.assertEqual(made(1), kept)
            self.assertIsNot(made(1), made(1))
            self.assertTrue(all(type(pair) is tuple for pair in kept))

    def test_counts(self):
        for high in (0, 1, 5):
            raw, kinded = tuple(raw_book(high)), tuple(kinded_book(high))
            for book, shape in ((raw, TERM), (kinded, NUMBER), (kinded, TRUTH)):
                told = counts_to(list(book), shape, 16)
                self.assertEqual(told, [plain_count(book, shape, size) for size in range(17)])

    def test_as_many_as_there_are_of_a_kind_and_the_same_values(self):
        for high, last in ((0, 5), (1, 4), (3, 4)):
            raw, kinded = raw_book(high), kinded_book(high)
            for size in range(last + 1):
                terms = all_values(raw, TERM, size, 2000)
                for kind, use in (("number", NUMBER), ("truth", TRUTH)):
                    left = sieved(raw, TERM, size, lambda term: kind_of(term) == kind, 2000)
                    told = all_values(kinded, use, size, 2000)
                    self.assertEqual(len(told), len(left))
                    self.assertEqual(sorted(map(repr, told)), sorted(map(repr, left)))
                    self.assertTrue(all(term in terms for term in told))

    def test_by_their_numbers(self):
        for book, use in ((raw_book(1), TERM), (kinded_book(1), NUMBER), (kinded_book(1), TRUTH)):
            for size in range(4):
                self.assertEqual(all_values(book, use, size), plain_values(book, use, size))

    def test_terms_of_a_kind_never_go_astray_at_a_whole_number(self):
        kinded = kinded_book(2)
        for use, kind in ((NUMBER, int), (TRUTH, bool)):
            for size in range(5):
                for term in all_values(kinded, use, size, 2000):
                    for thing in (0, 1, -3, 10 ** 299):
                        self.assertIs(type(said(term, thing)), kind, term)

    def test_a_later_size(self):
        kinded = kinded_book(0)
        truths = all_values(kinded, TRUTH, 6, 2000)
        self.assertGreater(len(truths), 50)
        for term in truths:
            self.assertEqual(kind_of(term), "truth")
            self.assertIs(type(said(term, 4)), bool)


if __name__ == "__main__":
    unittest.main()
