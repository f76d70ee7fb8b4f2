import unittest

from countgen.errors import Crowded, NoNote
from countgen.notes import read_note
from countgen.terms import read_term, show_term
from tests.test_notes import NO_TEXTS

HERE = ("here", ())
OF_ONE = ("count", "sum", "not", "turned")
OF_TWO = ("plus", "times", "less", "same", "both", "each", "joined")
MARKS = ("num", "here", "part", "when") + OF_ONE + OF_TWO


def num(number):
    return ("num", number)


def each_mark():
    """Pairs (text, term), one at least for each mark."""
    yield "7", num(7)
    yield "here", HERE
    yield "part(here,2)", ("part", (HERE, 2))
    for mark in OF_ONE:
        yield f"{mark}(here)", (mark, HERE)
    for mark in OF_TWO:
        yield f"{mark}(here,1)", (mark, (HERE, num(1)))
    yield "when(here,1,-2)", ("when", (HERE, num(1), num(-2)))


def deep_terms(depth):
    """For each mark with terms in it, and each place of those, terms that are nested so deep."""
    for mark in OF_ONE + ("part",) + OF_TWO + ("when",):
        many = 1 if mark in OF_ONE + ("part",) else 3 if mark == "when" else 2
        for place in range(many):
            term, text = HERE, "here"
            for _ in range(depth - 1):
                inner = [(num(each), str(each)) for each in range(many)]
                inner[place] = (term, text)
                terms = tuple([each for each, shown in inner])
                shown = ",".join([shown for each, shown in inner])
                if mark == "part":
                    term, text = (mark, (term, 20)), f"part({text},20)"
                else:
                    term, text = (mark, terms[0] if mark in OF_ONE else terms), f"{mark}({shown})"
            yield term, text


class ReadTermTest(unittest.TestCase):
    def refused(self, text, error=NoNote):
        with self.subTest(text=text):
            with self.assertRaises(error) as caught:
                read_term(text)
            self.assertIs(type(caught.exception), error)

    def test_each_mark(self):
        self.assertEqual({term[0] for text, term in each_mark()}, set(MARKS))
        for text, term in each_mark():
            with self.subTest(text):
                self.assertEqual(read_term(text), term)
                self.assertEqual(show_term(term), text)

    def test_the_words_of_the_document(self):
        text = "less(count(here),plus(2,part(here,0)))"
        term = ("less", (("count", HERE), ("plus", (num(2), ("part", (HERE, 0))))))
        self.assertEqual(read_term(text), term)
        self.assertEqual(show_term(term), text)

    def test_numbers(self):
        for number in (0, 1, -1, 10, -10, 10 ** 59, 10 ** 60 - 1, 1 - 10 ** 60, -(10 ** 59)):
            for text, term in ((f"{number}", num(number)), (f"sum({number})", ("sum", num(number)))):
                told = read_term(text)
                self.assertEqual(told, term)
                self.assertEqual(show_term(told), text)
        self.assertIs(type(read_term("1")[1]), int)

    def test_numbers_written_otherwise(self):
        wrong = ("-0", "00", "01", "-01", "+1", "+0", "-", "--1", "1-", "1-2", "1a", "a1", "0x1", "1.0", "1e2", "", " 1")
        for text in wrong + ("1" * 61, "-" + "1" * 61, "1" * 62, "1" * 63):
            self.refused(text)
            self.refused(f"count({text})")
            self.refused(f"plus(here,{text})")
            self.refused(f"part(here,{text})")

    def test_places(self):
        for place in (0, 1, 9, 10, 19, 20):
            self.assertEqual(read_term(f"part(7,{place})"), ("part", (num(7), place)))
        for place in ("21", "-1", "22", "99", "1" * 60, "-20", "here", "part(here,0)", "0()", "0(0)", "x:0", "sum(0)"):
            self.refused(f"part(here,{place})")

    def test_as_many_inner_terms_as_the_mark_has(self):
        fitting = {"part": (2,), "when": (3,)}
        fitting.update({mark: (1,) for mark in OF_ONE})
        fitting.update({mark: (2,) for mark in OF_TWO})
        for mark, right in fitting.items():
            for many in range(5):
                text = f"{mark}({','.join(['1'] * many)})"
                if many in right:
                    self.assertEqual(show_term(read_term(text)), text)
                else:
                    self.refused(text)

    def test_labels(self):
        for text, term in each_mark():
            self.refused("a:" + text)
            self.refused(f"count(a:{text})")
        for text in ("plus(1,b:2)", "plus(b:1,2)", "part(a:here,0)", "part(here,a:0)", "when(1,2,c:3)"):
            self.refused(text)

    def test_marks_without_brackets_and_with_others(self):
        for mark in MARKS:
            if mark != "here":
                self.refused(mark)
                self.refused(f"count({mark})")
        for text in ("here()", "here(1)", "here(here)", "num(1)", "num()", "num", "7()", "7(1)", "0()", "-1(here)"):
            self.refused(text)

    def test_names_and_other_words(self):
        for text in ("tree", "x", "whole", "Here", "HERE", "here2", "plus", "minus(1,2)", "Plus(1,2)", "tree()",
                     "many(here)", "row()", "sum-(here)", "wenn(1,2,3)", "whole(0,1)", "part-(here,0)"):
            self.refused(text)

    def test_what_is_no_note(self):
        for text in ("", " ", "here ", " here", "plus(1, 2)", "plus(1,2", "plus(1,2))", "plus(1,,2)", "plus(,1)",
                     "plus(1,2,)", "(1)", "count(here)here", "here\n", "count[here]", "not((1))", ":here", "1,2"):
            self.refused(text)

    def test_what_is_no_text(self):
        for thing in NO_TEXTS:
            self.refused(thing)

    def test_open_brackets(self):
        for depth in range(1, 7):
            text = "not(" * depth + "here" + ")" * depth
            self.assertEqual(show_term(read_term(text)), text)
        for depth in (7, 8, 100):
            self.refused("not(" * depth + "here" + ")" * depth, Crowded)
        self.refused("(((((((", Crowded)
        self.refused("a:tree(((((((", Crowded)
        self.refused(")(((((((")
        self.refused("))))(((((((((((", Crowded)

    def test_long_texts(self):
        figures = "1" * 60
        inner = ",".join([figures] * 2)
        text = f"when(plus({inner}),times({inner}),less({inner}))"
        self.assertEqual(show_term(read_term(text)), text)
        self.refused("1" * 2000)
        self.refused("1" * 2001, Crowded)
        self.refused("here" + " " * 1997, Crowded)
        self.refused("here" + " " * 1996)

    def test_no_lists_in_what_is_told(self):
        for text, term in each_mark():
            told = read_term(text)
            self.assertEqual(repr(told), repr(term))
            self.assertEqual(len(told), 2)


class ShowTermTest(unittest.TestCase):
    def test_thirty_deep(self):
        for depth in (2, 7, 30):
            for term, text in deep_terms(depth):
                self.assertEqual(show_term(term), text)

    def test_read_again_it_is_the_same(self):
        for depth in range(1, 8):
            for term, text in deep_terms(depth):
                self.assertEqual(read_term(show_term(term)), term)

    def test_great_numbers(self):
        for number in (10 ** 299, 1 - 10 ** 300):
            self.assertEqual(show_term(("times", (num(number), HERE))), f"times({number},here)")

    def test_shown_as_a_note(self):
        for term, text in deep_terms(4):
            label, word, notes = read_note(show_term(term))
            self.assertEqual((label, word), ("", term[0]))


if __name__ == "__main__":
    unittest.main()
