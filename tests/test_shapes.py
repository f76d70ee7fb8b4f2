import string
import unittest

from countgen.errors import CountError, Crowded, NoNote, NoRange, Twice
from countgen.shapes import read_shape, show_shape
from tests.test_notes import NO_TEXTS

ALL_SIGNS = string.ascii_letters + string.digits
BIT = ("whole", 0, 1)
LETTERS = "abcdefghijk"
KINDS = ("whole", "text", "row", "many", "rising", "unlike", "alike", "pick", "use")


def shape_text(length):
    part = f"text({ALL_SIGNS})"
    eight = "row(" + ",".join([part] * 8) + ")"
    begin = f"row({eight},{eight},{eight},row({part},{part},{part},{part},text("
    return begin + ALL_SIGNS[:length - len(begin) - 3] + ")))"


class ShapesCase(unittest.TestCase):
    def refused(self, error, *texts):
        for text in texts:
            with self.subTest(text=text), self.assertRaises(error):
                read_shape(text)

    def told(self, text, shape):
        with self.subTest(text=text):
            self.assertEqual(read_shape(text), shape)
            self.assertEqual(show_shape(shape), text)


class EachKindTest(ShapesCase):
    def test_wholes(self):
        self.told("whole(-3,10)", ("whole", -3, 10))
        self.told("whole(0,0)", ("whole", 0, 0))
        self.told("whole(7,7)", ("whole", 7, 7))
        self.told("whole(-7,-7)", ("whole", -7, -7))
        self.told("whole(-10,-9)", ("whole", -10, -9))
        self.told("whole(100,1000)", ("whole", 100, 1000))

    def test_wholes_are_whole_numbers(self):
        for number in read_shape("whole(0,1)")[1:]:
            self.assertIs(type(number), int)

    def test_numbers_of_sixty_figures(self):
        most = 10 ** 60 - 1
        self.told(f"whole(-{most},{most})", ("whole", -most, most))
        self.told(f"whole({10 ** 59},{most})", ("whole", 10 ** 59, most))
        self.refused(NoNote, f"whole(0,{10 ** 60})", f"whole(-{10 ** 60},0)", f"whole({10 ** 60},{10 ** 60})",
                     f"alike(a,{10 ** 60})")

    def test_numbers_written_otherwise(self):
        for number in ("00", "01", "-0", "-00", "-01", "+1", "-", "--1", "1-", "1-2", "a", "1a", "0x1", "x:1", "1()",
                       "1(2)", "", " 1", "1 ", "1_0", "0" * 60, "0" * 61, "-" + "0" * 60, "1.0", "A", "0-"):
            self.refused(NoNote, f"whole({number},9)", f"whole(-9,{number})", f"alike(a,{number})")

    def test_wholes_of_another_length(self):
        self.refused(NoNote, "whole()", "whole(1)", "whole(1,2,3)")

    def test_texts(self):
        self.told("text(a)", ("text", "a"))
        self.told("text(ab0)", ("text", "ab0"))
        self.told("text(zZ9)", ("text", "zZ9"))
        self.told("text(01)", ("text", "01"))
        self.told(f"text({ALL_SIGNS})", ("text", ALL_SIGNS))

    def test_wrong_texts(self):
        self.refused(NoNote, "text()", "text(-)", "text(a-b)", "text(-a)", "text(a,b)", "text(a())", "text(a(b))",
                     "text(l:a)", "text(" + ALL_SIGNS + "a)", "text( )", "text(a b)", "text(-1)")

    def test_rows(self):
        self.told("row()", ("row", ()))
        self.told("row(a)", ("row", (("use", "a"),)))
        self.told("row(whole(0,1),row())", ("row", (BIT, ("row", ()))))
        eight = ",".join(LETTERS[:8])
        self.told(f"row({eight})", ("row", tuple([("use", name) for name in LETTERS[:8]])))
        self.refused(NoNote, f"row({eight},i)")

    def test_shapes_of_one_part(self):
        for kind in ("many", "rising", "unlike"):
            self.told(f"{kind}(whole(0,1))", (kind, BIT))
            self.told(f"{kind}({kind}(a))", (kind, (kind, ("use", "a"))))
            self.refused(NoNote, f"{kind}()", f"{kind}(a,b)", f"{kind}(a,3)", f"{kind}(3)", f"{kind}(x:a)")

    def test_alikes(self):
        for times in (1, 3, 6):
            self.told(f"alike(whole(0,1),{times})", ("alike", BIT, times))
        self.refused(NoNote, "alike(a,0)", "alike(a,7)", "alike(a,-1)", "alike(a,66)", "alike()", "alike(a)",
                     "alike(3)", "alike(a,3,3)", "alike(a,a,3)", "alike(3,a)", "alike(a,b)", "alike(x:a,3)")

    def test_picks(self):
        self.told("pick(leaf:whole(0,1))", ("pick", (("leaf", BIT),)))
        self.told("pick(leaf:row(),node:row(tree,tree))", ("pick", (
            ("leaf", ("row", ())), ("node", ("row", (("use", "tree"), ("use", "tree")))))))
        self.told("pick(abcdefgh:a,b:abcdefgh)", ("pick", (("abcdefgh", ("use", "a")), ("b", ("use", "abcdefgh")))))
        ten = ",".join([mark + ":row()" for mark in LETTERS[:10]])
        self.told(f"pick({ten})", ("pick", tuple([(mark, ("row", ())) for mark in LETTERS[:10]])))
        self.refused(NoNote, f"pick({ten},k:row())", "pick()")

    def test_branches_without_a_mark(self):
        self.refused(NoNote, "pick(a)", "pick(row())", "pick(x:a,b)", "pick(a,x:b)", "pick(x:a,pick(y:b))", "pick(:a)",
                     "pick(X:a)", "pick(abcdefghi:a)", "pick(x:)", "pick(x:y:a)")

    def test_labels_where_none_belong(self):
        self.refused(NoNote, "x:a", "x:row()", "row(x:a)", "many(x:row())", "whole(x:0,1)", "whole(0,x:1)",
                     "alike(a,x:3)", "text(x:a)", "pick(x:row(y:a))", "row(pick(x:a),y:b)", "x:pick(y:a)")

    def test_names(self):
        for name in ("a", "z", "tree", "abcdefgh"):
            self.told(name, ("use", name))
        self.refused(NoNote, "abcdefghi", "A", "aB", "a1", "1", "-", "a-b", "-1", "0", "")

    def test_words_of_kinds_are_names_without_brackets(self):
        for kind in KINDS:
            self.told(kind, ("use", kind))
            self.told(f"many({kind})", ("many", ("use", kind)))
            self.told(f"pick({kind}:{kind})", ("pick", ((kind, ("use", kind)),)))

    def test_other_words_with_brackets(self):
        self.refused(NoNote, "a()", "use(a)", "tree(a,b)", "Row()", "rows(a)", "row1()", "-()", "0()", "use()",
                     "WHOLE(0,1)", "manyy(a)")


class RefusalsTest(ShapesCase):
    def test_what_is_no_text(self):
        self.refused(NoNote, *NO_TEXTS, ("whole", 0, 1), ("row", ()), ("use", "a"))

    def test_what_is_no_note(self):
        self.refused(NoNote, "row(", "row)", "row())", "row(a,)", "row(,)", "row(a a)", " row()", "row() ", "row()\n",
                     "a=row()", "row();", "row()row()")

    def test_crowded(self):
        self.told("many(" * 6 + "a" + ")" * 6, read_shape("many(" * 6 + "a" + ")" * 6))
        self.refused(Crowded, "many(" * 7 + "a" + ")" * 7, "row(" * 6 + "row()" + ")" * 6, "a" * 2001)
        self.refused(NoNote, "a" * 2000)
        self.assertEqual(len(shape_text(2000)), 2000)
        self.assertEqual(show_shape(read_shape(shape_text(2000))), shape_text(2000))
        self.refused(Crowded, shape_text(2001))

    def test_crowded_is_due_ahead_of_all(self):
        deep = "many(" * 6 + "a" + ")" * 6
        for other in ("nokind()", "text(aa)", "pick(x:a,x:b)", "whole(1,0)", "pick(a)", "A b"):
            self.refused(Crowded, f"row({other},{deep})", f"row({deep},{other})")

    def test_twice(self):
        self.refused(Twice, "text(aa)", "text(aba)", "text(a0Z0)", "text(abcdd)", "text(" + ALL_SIGNS[:61] + "a)",
                     "pick(x:a,x:a)", "pick(x:a,y:b,x:c)", "pick(x:a,y:b,y:c)", "many(text(aa))",
                     "pick(x:text(aa))", "pick(x:pick(y:a,y:b))", "alike(text(aa),2)", "rising(text(aa))",
                     "unlike(text(aa))", "row(a,text(ab),text(bb))")

    def test_not_twice(self):
        self.told("text(aA)", ("text", "aA"))
        self.told("row(text(a),text(a))", ("row", (("text", "a"), ("text", "a"))))
        self.told("pick(x:a,y:a)", ("pick", (("x", ("use", "a")), ("y", ("use", "a")))))
        self.told("pick(x:pick(x:a))", ("pick", (("x", ("pick", (("x", ("use", "a")),))),)))

    def test_no_range(self):
        self.refused(NoRange, "whole(1,0)", "whole(0,-1)", "whole(-1,-2)", "whole(10,9)", "many(whole(1,0))",
                     "row(a,whole(0,1),whole(3,2))", "pick(x:whole(1,0))", "alike(whole(1,0),2)",
                     "rising(whole(1,0))", "unlike(whole(1,0))", f"whole({10 ** 59 + 1},{10 ** 59})")

    def test_no_note_is_due_ahead_of_twice_and_no_range(self):
        for other in ("nokind()", "alike(a,7)", "pick()", "pick(a)", "x:a", "text(-)", "whole(1)", "whole(0,-0)", "A",
                      "many(whole(2,01))", "text(aa-)"):
            for later in ("text(aa)", "pick(x:a,x:b)", "whole(1,0)"):
                self.refused(NoNote, f"row({other},{later})", f"row({later},{other})")

    def test_twice_is_due_ahead_of_no_range(self):
        for twice in ("text(aa)", "pick(x:a,x:b)", "many(many(text(aa)))"):
            for later in ("whole(1,0)", "many(whole(1,0))"):
                self.refused(Twice, f"row({twice},{later})", f"row({later},{twice})")
        self.refused(Twice, "pick(x:whole(1,0),x:a)")


class ShownShapesTest(ShapesCase):
    def test_all_kinds_in_one(self):
        self.told(
            "pick(a:row(whole(-1,2),text(xy)),b:many(rising(one)),c:unlike(alike(row(),2)))",
            ("pick", (
                ("a", ("row", (("whole", -1, 2), ("text", "xy")))),
                ("b", ("many", ("rising", ("use", "one")))),
                ("c", ("unlike", ("alike", ("row", ()), 2))))))

    def test_shapes_beyond_the_bounds_of_reading_are_shown(self):
        shape = ("whole", -10 ** 299, 10 ** 299)
        for _ in range(20):
            shape = ("many", shape)
        self.assertEqual(show_shape(shape), "many(" * 20 + f"whole(-{10 ** 299},{10 ** 299})" + ")" * 20)

    def test_what_is_read_of_changed_texts_is_shown_so(self):
        text = "pick(a:row(whole(-1,20),text(xy)),b:many(one),c:alike(row(),2))"
        for place in range(len(text) + 1):
            for sign in ("", "a", "b", "-", "0", "1", "(", ")", ",", ":", "=", " ", "\n", "()", "a:", ",1", ",z"):
                for behind in (text[place:], text[place + 1:]):
                    changed = text[:place] + sign + behind
                    try:
                        shape = read_shape(changed)
                    except CountError:
                        continue
                    self.assertEqual(show_shape(shape), changed)


if __name__ == "__main__":
    unittest.main()
