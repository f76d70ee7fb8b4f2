import itertools
import re
import unittest

from countgen.errors import Crowded, NoNote
from countgen.notes import read_note, show_note

NO_TEXTS = (0, 7, -1, True, False, None, [], ["a"], (), ("", "a", None), {}, {"a": 1}, b"a", 1.5, object(), str)


def pattern_of_notes(depth):
    plain = "(?:[a-z]{1,8}:)?[A-Za-z0-9-]{1,62}"
    if depth == 0:
        return plain
    inner = pattern_of_notes(depth - 1)
    return f"{plain}(?:\\((?:{inner}(?:,{inner})*)?\\))?"


class ReadNoteTest(unittest.TestCase):
    def refused(self, error, *texts):
        for text in texts:
            with self.subTest(text=text), self.assertRaises(error):
                read_note(text)

    def told(self, text, note):
        with self.subTest(text=text):
            self.assertEqual(read_note(text), note)
            self.assertEqual(show_note(note), text)

    def test_words_without_brackets(self):
        for word in ("a", "z", "A", "Z", "0", "9", "-", "--", "aB-9", "-0", "007", "a" * 62, "-" * 62):
            self.told(word, ("", word, None))

    def test_words_of_no_sign_or_too_many(self):
        self.refused(NoNote, "", "a" * 63, "x:", "x:()", "()", "a(b,)", "a(,b)", "a(,)", "x:" + "a" * 63,
                     "a(" + "b" * 63 + ")")

    def test_words_of_other_signs(self):
        self.refused(NoNote, *["a" + sign for sign in " !\"#$%&'*+./;<=>?@[\\]^_`{|}~\n"])
        self.refused(NoNote, *[sign + "a" for sign in " !\"#$%&'*+./;<=>?@[\\]^_`{|}~\n"])

    def test_labels(self):
        for label in ("a", "z", "abcdefgh", "zzzzzzzz"):
            self.told(label + ":w", (label, "w", None))
            self.told(label + ":" + "w" * 62, (label, "w" * 62, None))
            self.told(label + ":w()", (label, "w", ()))
            self.told("a(" + label + ":-1)", ("", "a", ((label, "-1", None),)))

    def test_wrong_labels(self):
        self.refused(NoNote, ":a", "abcdefghi:a", "A:a", "aB:a", "a1:a", "1:a", "-:a", "a-b:c", "a:b:c", "a::b",
                     "a(:b)", "a(B:b)", "a b:c", "a():b", "`:a", "{:a")

    def test_brackets(self):
        self.told("row()", ("", "row", ()))
        self.told("row(a)", ("", "row", (("", "a", None),)))
        self.told("row(a())", ("", "row", (("", "a", ()),)))
        self.told("r(a,x:b,c(d,-3),7())", ("", "r", (
            ("", "a", None), ("x", "b", None), ("", "c", (("", "d", None), ("", "-3", None))), ("", "7", ()))))

    def test_brackets_written_otherwise(self):
        self.refused(NoNote, "a(", "a)", "(a)", "a(b", "a(b))", "a()b", "a()()", "a(b)(c)", "a,b", "a(b)c", "a(b),c",
                     "a(b,c", "a((b))", "a(b(c)", "(", ")", ",", ":", "a( )", "a(b, c)", " a", "a ", "a\n", "\na",
                     "a(b:)", "a(b;c)")

    def test_kinds_of_what_is_told(self):
        note = read_note("a(b,c())")
        self.assertIs(type(note), tuple)
        self.assertIs(type(note[2]), tuple)
        self.assertIs(type(note[2][0]), tuple)
        self.assertIsNone(note[2][0][2])
        self.assertEqual(note[2][1][2], ())

    def test_what_is_no_text(self):
        self.refused(NoNote, *NO_TEXTS)

    def test_brackets_left_unclosed(self):
        six = "a(" * 6 + "b" + ")" * 6
        self.assertEqual(show_note(read_note(six)), six)
        self.refused(Crowded, "a(" * 7 + "b" + ")" * 7)
        self.assertEqual(show_note(read_note(f"a({six[2:-1]},{six[2:-1]})")), f"a({six[2:-1]},{six[2:-1]})")
        self.refused(Crowded, f"a(b(),{six})", f"a({six},b())")

    def test_crowded_by_brackets_is_due_ahead_of_no_note(self):
        self.refused(Crowded, "(((((((", "a b(((((((", "a)((((((((", "a(" * 7, "=((((((())))))))", "()()()(((((((")
        self.refused(NoNote, "((((((", "a b((((((", "a(" * 6)

    def test_brackets_are_counted_from_the_begin(self):
        self.refused(NoNote, ")(((((((", ")))(((((((((", ")" * 9 + "(" * 15, "a)" + "(" * 7)
        self.refused(Crowded, ")((((((((", ")))((((((((((", ")" * 9 + "(" * 16, "a)" + "(" * 8)

    def test_length_of_texts(self):
        row = "r(" + ",".join(["a" * 9] * 199) + ","
        longest = row + "b" * (1999 - len(row)) + ")"
        self.assertEqual(len(longest), 2000)
        self.assertEqual(show_note(read_note(longest)), longest)
        longer = row + "b" * (2000 - len(row)) + ")"
        self.assertEqual(len(longer), 2001)
        self.refused(Crowded, longer)

    def test_crowded_by_length_is_due_ahead_of_no_note(self):
        self.refused(Crowded, "a" * 2001, " " * 2001, "\n" * 2001, "a(" + "," * 3000)
        self.refused(NoNote, "a" * 2000, " " * 2000, "\n" * 2000)

    def test_no_list_that_is_crowded_is_asked_for_its_length(self):
        self.refused(NoNote, ["a"] * 2001, ("(",) * 7, ["("] * 7)

    def test_all_short_texts(self):
        pattern = re.compile(pattern_of_notes(3))
        for length in range(7):
            for signs in itertools.product("aB(),:", repeat=length):
                text = "".join(signs)
                try:
                    shown = show_note(read_note(text))
                except NoNote:
                    shown = None
                self.assertEqual(shown, text if pattern.fullmatch(text) else None, text)


class ShowNoteTest(unittest.TestCase):
    def test_read_again_it_is_the_same(self):
        inner = (("", "a", None), ("lab", "b", ()), ("", "-", (("x", "9", None),)))
        for note in (*inner, ("", "all", inner), ("top", "all", (("", "all", inner), *inner))):
            with self.subTest(note=note):
                self.assertEqual(read_note(show_note(note)), note)

    def test_notes_beyond_the_bounds_of_reading_are_shown(self):
        note = ("", "a", None)
        for _ in range(60):
            note = ("", "a", (note,))
        self.assertEqual(show_note(note), "a(" * 60 + "a" + ")" * 60)


if __name__ == "__main__":
    unittest.main()
