import copy
import unittest

from countgen.books import read_book
from countgen.counts import counted, counts_to
from countgen.shapes import read_shape
from tests.plainly import SAMPLES, at_once, plain_count, plain_values, read_sample

SIGNS = "abcdefghijklmnopqrst"
GREAT = 10 ** 60 - 1
NEVER = "never=row(never)"


class CountsCase(unittest.TestCase):
    def told(self, text, counts, book_text=""):
        book, shape = read_sample((book_text, text))
        with self.subTest(shape=text, book=book_text):
            self.assertEqual(counts_to(book, shape, len(counts) - 1), counts)
            self.assertEqual([counted(book, shape, size) for size in range(len(counts))], counts)


class EachKindTest(CountsCase):
    def test_wholes(self):
        self.told("whole(0,0)", [1] + [0] * 16)
        self.told("whole(5,6)", [1, 1] + [0] * 15)
        self.told("whole(-3,10)", [1, 1, 2, 4, 6] + [0] * 12)
        self.told("whole(-3,12)", [1, 1, 2, 4, 8] + [0] * 12)
        self.told("whole(-3,13)", [1, 1, 2, 4, 8, 1] + [0] * 11)
        powers = [1] + [2 ** size for size in range(16)]
        self.told(f"whole(0,{2 ** 16 - 1})", powers)
        self.told(f"whole(0,{2 ** 16 - 2})", powers[:-1] + [2 ** 15 - 1])
        self.told(f"whole(-{GREAT},{GREAT})", powers)
        self.told(f"whole({GREAT - 4},{GREAT})", [1, 1, 2, 1] + [0] * 13)

    def test_texts(self):
        self.told("text(a)", [1] * 17)
        self.told("text(ab0)", [3 ** size for size in range(17)])
        self.told(f"text({SIGNS})", [20 ** size for size in range(17)])

    def test_rows(self):
        self.told("row()", [1] + [0] * 16)
        self.told("row(text(ab))", [2 ** size for size in range(17)])
        self.told("row(text(ab),text(ab))", [(size + 1) * 2 ** size for size in range(17)])
        self.told("row(whole(0,1),whole(0,1))", [1, 2, 1] + [0] * 14)
        self.told("row(" + ",".join(["whole(0,1)"] * 8) + ")", [1, 8, 28, 56, 70, 56, 28, 8, 1] + [0] * 8)

    def test_manys(self):
        self.told("many(row())", [1] * 17)
        self.told("many(text(a))", [1] + [2 ** size for size in range(16)])
        self.told("many(whole(0,0))", [1] * 17)
        fibonacci = [1, 1, 2, 3, 5, 8, 13, 21, 34, 55, 89, 144, 233, 377, 610, 987, 1597]
        self.told("many(whole(0,1))", fibonacci)
        self.told("many(never)", [1] + [0] * 16, NEVER)

    def test_picks(self):
        self.told("pick(a:row())", [1] + [0] * 16)
        self.told("pick(a:text(ab),b:text(abc),c:row())", [3] + [2 ** size + 3 ** size for size in range(1, 17)])
        self.told("pick(a:never,b:row())", [1] + [0] * 16, NEVER)
        ten = ",".join([f"{mark}:text(a)" for mark in "abcdefghij"])
        self.told(f"pick({ten})", [10] * 17)

    def test_uses(self):
        self.told("a", [0] + [2 ** size for size in range(16)], "a=text(xy)")
        self.told("c", [0, 0, 0] + [2 ** size for size in range(14)], "a=text(xy)\nb=a\nc=b")
        self.told("never", [0] * 17, NEVER)
        self.told("tree", [0, 1, 0, 1, 0, 2, 0, 5, 0, 14, 0, 42, 0, 132, 0, 429, 0],
                  "tree=pick(leaf:row(),node:row(tree,tree))")

    def test_alike_ones(self):
        for times in range(1, 7):
            told = [0] * 17
            for each in range(17):
                if times * (1 + each) < 17:
                    told[times * (1 + each)] = 2 ** each
            self.told(f"alike(text(ab),{times})", told)
        self.told("alike(never,1)", [0] * 17, NEVER)
        self.told("alike(alike(row(),2),2)", [0] * 6 + [1] + [0] * 10)

    def test_rising_ones(self):
        self.told("rising(row())", [1] * 17)
        # One thing at each size: as many as there are ways to part a number.
        parted = [1, 1, 2, 3, 5, 7, 11, 15, 22, 30, 42, 56, 77, 101, 135, 176, 231]
        self.told("rising(text(a))", parted)
        self.told("rising(many(row()))", parted)
        self.told("rising(pick(a:row(),b:row()))", list(range(1, 18)))
        self.told("rising(never)", [1] + [0] * 16, NEVER)
        self.told("rising(whole(0,1))", [size // 2 + 1 for size in range(17)])
        # Trees of which the order of the branches is no matter.
        self.told("tree", [0, 1, 0, 1, 0, 2, 0, 4, 0, 9, 0, 20, 0, 48, 0, 115, 0], "tree=rising(tree)")

    def test_unlike_ones(self):
        self.told("unlike(row())", [1, 1] + [0] * 15)
        # Ways to part a number into unlike ones.
        self.told("unlike(text(a))", [1, 1, 1, 2, 2, 3, 4, 5, 6, 8, 10, 12, 15, 18, 22, 27, 32])
        self.told("unlike(pick(a:row(),b:row(),c:row()))", [1, 3, 3, 1] + [0] * 13)
        self.told("unlike(never)", [1] + [0] * 16, NEVER)
        self.told("unlike(whole(0,1))", [1, 1, 1, 1] + [0] * 13)

    def test_parts_with_no_one_and_many_values_of_a_size(self):
        some = "pick(a:alike(text(ab),2),b:whole(0,9),c:alike(row(),3))"
        for kind in ("rising", "unlike", "many"):
            shape = read_shape(f"{kind}({some})")
            self.assertEqual(counts_to([], shape, 16), [plain_count((), shape, size) for size in range(17)])


class AgainstValuesTest(CountsCase):
    def test_values_gone_through_at_small_sizes(self):
        for sample in SAMPLES:
            book, shape = read_sample(sample)
            for size in range(6):
                count = counted(book, shape, size)
                if count <= 200:
                    self.assertEqual(len(plain_values(book, shape, size)), count, (sample, size))

    def test_reckoned_otherwise_at_all_sizes(self):
        with at_once():
            for sample in SAMPLES:
                book, shape = read_sample(sample)
                told = [plain_count(tuple(book), shape, size) for size in range(17)]
                self.assertEqual(counts_to(book, shape, 16), told, sample)
                self.assertEqual(counted(book, shape, 16), told[16], sample)

    def test_great_ones_at_once(self):
        book = read_book("\n".join([
            "a=pick(x:row(b,c),y:many(d),z:whole(0,9))", "b=rising(a)", "c=unlike(row(d,a))", "d=alike(e,2)",
            "e=pick(x:f,y:text(abc))", "f=row(g,g)", "g=many(h)", "h=pick(x:a,y:g,z:row())"]))
        with at_once():
            for name in "abcdefgh":
                shape = ("use", name)
                self.assertEqual(counted(book, shape, 16), plain_count(tuple(book), shape, 16))

    def test_a_name_that_the_shape_does_not_use(self):
        book = read_book("a=text(xy)\nb=row(b)")
        self.assertEqual(counts_to(book, ("use", "a"), 3), [0, 1, 2, 4])


class ListsTest(CountsCase):
    def test_counts_to_tells_a_new_list_each_time(self):
        shape = read_shape("text(ab)")
        first = counts_to([], shape, 3)
        self.assertIs(type(first), list)
        first[2] = 99
        first.append(7)
        self.assertEqual(counts_to([], shape, 3), [1, 2, 4, 8])
        self.assertEqual(counted([], shape, 2), 4)
        self.assertEqual(counts_to([], shape, 0), [1])

    def test_books_stay_and_are_asked_each_time(self):
        book = read_book("a=text(xy)\nb=many(a)")
        kept = copy.deepcopy(book)
        self.assertEqual(counted(book, ("use", "a"), 3), 4)
        counts_to(book, ("use", "b"), 16)
        self.assertEqual(book, kept)
        book[0] = ("a", ("text", "xyz"))
        self.assertEqual(counted(book, ("use", "a"), 3), 9)

    def test_whole_numbers(self):
        for told in counts_to([], read_shape("pick(a:whole(0,3),b:row())"), 16):
            self.assertIs(type(told), int)


if __name__ == "__main__":
    unittest.main()
