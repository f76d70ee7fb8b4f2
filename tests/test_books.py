import copy
import unittest

from countgen.books import names_used, read_book, shape_of, show_book
from countgen.errors import CountError, Crowded, NoGround, NoName, NoNote, NoRange, Twice
from countgen.shapes import read_shape
from tests.test_notes import NO_TEXTS
from tests.test_shapes import shape_text

TREE = "tree=pick(leaf:whole(0,1),node:row(tree,tree))"
EIGHT = "\n".join([f"{name}=whole(0,1)" for name in "abcdefgh"])


class BooksCase(unittest.TestCase):
    def refused(self, error, *texts):
        for text in texts:
            with self.subTest(text=text), self.assertRaises(error):
                read_book(text)

    def told(self, text, book):
        with self.subTest(text=text):
            self.assertEqual(read_book(text), book)
            self.assertEqual(show_book(book), text)

    def ring(self, text):
        with self.assertRaises(NoGround) as caught:
            read_book(text)
        return caught.exception.ring


class ReadBookTest(BooksCase):
    def test_one_row(self):
        self.told("a=row()", [("a", ("row", ()))])
        self.told("abcdefgh=row()", [("abcdefgh", ("row", ()))])
        self.told(TREE, [("tree", ("pick", (
            ("leaf", ("whole", 0, 1)), ("node", ("row", (("use", "tree"), ("use", "tree")))))))])

    def test_several_rows_in_their_order(self):
        self.told("b=a\na=row(b,c)\nc=text(xy)", [
            ("b", ("use", "a")), ("a", ("row", (("use", "b"), ("use", "c")))), ("c", ("text", "xy"))])
        self.told("row=many(row)\nwhole=row", [("row", ("many", ("use", "row"))), ("whole", ("use", "row"))])

    def test_eight_rows_and_nine(self):
        self.told(EIGHT, [(name, ("whole", 0, 1)) for name in "abcdefgh"])
        self.refused(Crowded, EIGHT + "\ni=row()", EIGHT + "\n", "\n" + EIGHT, "\n" * 8)
        self.refused(NoNote, "\n" * 7)

    def test_kinds_of_what_is_told(self):
        book = read_book(TREE + "\nb=row()")
        self.assertIs(type(book), list)
        for pair in book:
            self.assertIs(type(pair), tuple)
            self.assertIs(type(pair[1]), tuple)

    def test_what_is_no_text(self):
        self.refused(NoNote, *NO_TEXTS, [("a", ("row", ()))], ["a=row()"], ("a=row()",) * 9)

    def test_no_rows_and_empty_rows(self):
        self.refused(NoNote, "", "\n", "a=row()\n", "\na=row()", "a=row()\n\nb=row()")

    def test_rows_without_name_or_shape(self):
        self.refused(NoNote, "a", "row()", "a:row()", "=row()", "a=", "=", "==", "a==row()", "a=row()=", "a=b=row()",
                     "a=row()=row()", "abcdefghi=row()", "A=row()", "a1=row()", "a-b=row()", " a=row()", "a =row()",
                     "a= row()", "a=row() ", "a,b=row()", "a=x:row()", "a=nokind()", "a=alike(a,7)", "a=pick(a)",
                     "a=text(-)", "a=A", "a=row(", "a=row()b=row()", "a()=row()", "x:a=row()", "a=whole(0,-0)")

    def test_a_wrong_row_anywhere(self):
        for wrong in ("a", "=row()", "B=row()", "b=", "b=nokind()", ""):
            self.refused(NoNote, wrong + "\na=row()", "a=row()\n" + wrong, "a=row()\n" + wrong + "\nc=row()")

    def test_crowded_rows(self):
        deep = "b=" + "many(" * 7 + "a" + ")" * 7
        self.refused(Crowded, deep, "a=row()\n" + deep, deep + "\na=row()", "a=" + "b" * 2001, "=(((((((",
                     "A=(((((((", "a==(((((((", "a=b=(((((((", "a=" + " " * 2001)
        self.told("b=" + "many(" * 6 + "b" + ")" * 6, read_book("b=" + "many(" * 6 + "b" + ")" * 6))

    def test_crowded_counts_only_behind_the_first_equals_sign(self):
        self.refused(NoNote, "(((((((", "(((((((=row()", "a" * 2001, "a" * 2001 + "=row()", "(=((((((", "a=)(((((((")
        self.refused(Crowded, ")=(((((((")

    def test_longest_rows(self):
        text = "\n".join([f"{name}={shape_text(2000)}" for name in ("a", "b", "abcdefgh")])
        self.assertEqual(show_book(read_book(text)), text)
        self.refused(Crowded, text + "\nc=" + shape_text(2001), "c=" + shape_text(2001) + "\n" + text)

    def test_brackets_are_counted_in_each_row_anew(self):
        self.refused(NoNote, "a=((((((\nb=((((((", "a=row(\nb=((((((")
        self.refused(Crowded, "a=))))))\nb=(((((((")


class RefusalsTest(BooksCase):
    def test_twice(self):
        self.refused(Twice, "a=row()\na=row()", "a=row()\nb=row()\na=text(x)", "a=text(xx)", "a=pick(x:row(),x:row())",
                     "a=row()\nb=many(text(xx))", "b=text(xyx)\na=row()")

    def test_no_range(self):
        self.refused(NoRange, "a=whole(1,0)", "a=row()\nb=many(whole(1,0))", "b=row(whole(0,1),whole(1,0))\na=row()")

    def test_no_name(self):
        self.refused(NoName, "a=b", "a=row(a,b)", "a=row()\nb=row(a,c)", "b=many(c)\na=row()", "a=whole",
                     "a=pick(a:row(),b:b)", "a=alike(b,2)")

    def test_names_of_any_row_are_known(self):
        for text in ("a=b\nb=row()", "a=row()\nb=a", "a=many(a)", "a=row(b)\nb=row(a)"):
            self.assertEqual(show_book(read_book(text)), text)

    def test_order_of_refusals(self):
        due = [
            (Crowded, "p=" + "many(" * 7 + "p" + ")" * 7),
            (NoNote, "q=nokind()"),
            (Twice, "r=text(xx)"),
            (NoRange, "s=whole(1,0)"),
            (NoName, "t=lost"),
            (NoGround, "u=u"),
        ]
        for place, (error, row) in enumerate(due):
            for later_error, later in due[place + 1:]:
                self.refused(error, row + "\n" + later, later + "\n" + row)
            rows = [row for error, row in due[place:]]
            self.refused(error, "\n".join(rows), "\n".join(rows[::-1]))

    def test_order_of_other_forms(self):
        self.refused(Crowded, EIGHT + "\na", "\n".join(["a"] * 9), "\n".join(["a=a"] * 9))
        self.refused(NoNote, "a=row()\na=row()\nb", "a=text(xx)\n", "a=text(xx)\n=row()", "a=whole(1,0)\nB=row()")
        self.refused(Twice, "a=whole(1,0)\na=row()", "a=b\na=c", "a=a\na=a", "a=whole(1,0)\nb=pick(x:a,x:a)")
        self.refused(NoRange, "a=row(b,whole(1,0))", "a=a\nb=whole(1,0)", "a=row(whole(1,0),b)")
        self.refused(NoName, "a=a\nb=c", "b=c\na=a", "a=b\nb=a\nc=many(d)")


class NoGroundTest(BooksCase):
    def test_one_ring(self):
        self.assertEqual(self.ring("a=a"), ["a"])
        self.assertEqual(self.ring("a=b\nb=a"), ["a", "b"])
        self.assertEqual(self.ring("b=a\na=b"), ["b", "a"])

    def test_ring_is_in_the_order_of_rows(self):
        self.assertEqual(self.ring("c=a\nb=c\na=b"), ["c", "b", "a"])
        self.assertEqual(self.ring("a=c\nb=a\nc=b"), ["a", "b", "c"])
        eight = "\n".join(["a=h", "h=g", "g=f", "f=e", "e=d", "d=c", "c=b", "b=a"])
        self.assertEqual(self.ring(eight), list("ahgfedcb"))

    def test_several_rings(self):
        self.assertEqual(self.ring("a=c\nb=d\nc=a\nd=b\ne=row()\nf=f"), ["a", "b", "c", "d", "f"])

    def test_names_that_only_lead_into_a_ring(self):
        self.assertEqual(self.ring("a=b\nb=b"), ["b"])
        self.assertEqual(self.ring("a=b\nb=c\nc=d\nd=c\ne=a"), ["c", "d"])
        self.assertEqual(self.ring("x=many(a)\na=b\nb=a"), ["a", "b"])

    def test_names_that_lead_back_otherwise_are_grounded(self):
        for text in ("a=many(a)", "a=row(a)", "a=pick(x:a)", "a=alike(a,1)", "a=b\nb=row(a)", "a=b\nb=c\nc=rising(a)",
                     "a=unlike(a)", "a=b\nb=c\nc=row()"):
            self.assertEqual(show_book(read_book(text)), text)

    def test_ring_is_a_list_of_its_own(self):
        first = self.ring("a=b\nb=a")
        self.assertIs(type(first), list)
        first.append("c")
        self.assertEqual(self.ring("a=b\nb=a"), ["a", "b"])


class ShowBookTest(BooksCase):
    def test_empty_book(self):
        self.assertEqual(show_book([]), "")

    def test_what_is_read_of_changed_texts_is_shown_so(self):
        text = "ab=pick(a:c,b:ab)\nc=whole(-1,20)\nd=text(xy)"
        for place in range(len(text) + 1):
            for sign in ("", "a", "c", "-", "1", "(", ")", ",", ":", "=", " ", "\n", "\nc=", "d"):
                for behind in (text[place:], text[place + 1:]):
                    changed = text[:place] + sign + behind
                    try:
                        book = read_book(changed)
                    except CountError:
                        continue
                    self.assertEqual(show_book(book), changed)


class ShapeOfTest(unittest.TestCase):
    def test_shape_of_each_name(self):
        book = read_book("b=row()\na=b\nc=text(xy)")
        self.assertEqual(shape_of(book, "b"), ("row", ()))
        self.assertEqual(shape_of(book, "a"), ("use", "b"))
        self.assertEqual(shape_of(book, "c"), ("text", "xy"))

    def test_no_name(self):
        book = read_book("b=row()\na=b")
        for name in ("c", "row", "ab", "A", "", "x"):
            with self.subTest(name=name), self.assertRaises(NoName):
                shape_of(book, name)
        with self.assertRaises(NoName):
            shape_of([], "a")


class NamesUsedTest(unittest.TestCase):
    def used(self, text):
        return names_used(read_shape(text))

    def test_none(self):
        for text in ("row()", "whole(0,1)", "text(ab)", "many(row(text(x)))", "pick(a:row(),b:text(c))"):
            self.assertEqual(self.used(text), [])

    def test_each_kind(self):
        for text in ("a", "row(a)", "many(a)", "rising(a)", "unlike(a)", "alike(a,2)", "pick(x:a)"):
            self.assertEqual(self.used(text), ["a"])

    def test_each_once_in_the_order_in_which_they_first_stand(self):
        self.assertEqual(self.used("row(b,a,b,c,a)"), ["b", "a", "c"])
        self.assertEqual(self.used("row(many(row(z,y)),x,many(y),w)"), ["z", "y", "x", "w"])
        self.assertEqual(self.used("pick(a:row(d,pick(b:c)),b:alike(b,2),c:unlike(c),d:rising(a))"), list("dcba"))
        self.assertEqual(self.used("row(whole,row,whole,use)"), ["whole", "row", "use"])


class ListsOfTheAskersOwnTest(unittest.TestCase):
    def test_read_book_tells_a_new_list_each_time(self):
        first = read_book(TREE)
        second = read_book(TREE)
        self.assertIsNot(first, second)
        first.append(("b", ("row", ())))
        first[0] = ("tree", ("row", ()))
        self.assertEqual(show_book(second), TREE)
        self.assertEqual(show_book(read_book(TREE)), TREE)

    def test_names_used_tells_a_new_list_each_time(self):
        for text in ("row(a,b)", "a", "row()"):
            shape = read_shape(text)
            first = names_used(shape)
            self.assertIs(type(first), list)
            kept = list(first)
            first.append("c")
            self.assertEqual(names_used(shape), kept)

    def test_books_handed_in_stay_as_they_are(self):
        book = read_book(TREE + "\nb=row(tree,b)")
        kept = copy.deepcopy(book)
        show_book(book)
        shape_of(book, "b")
        names_used(shape_of(book, "b"))
        with self.assertRaises(NoName):
            shape_of(book, "c")
        self.assertEqual(book, kept)


if __name__ == "__main__":
    unittest.main()
