import copy
import itertools
import unittest

from countgen.errors import Astray, CountError
from countgen.sayings import judge_of, said, same
from countgen.terms import read_term
from tests.plainly import lists_within
from tests.test_judging import Stubborn
from tests.test_terms import HERE, OF_ONE, OF_TWO, deep_terms, num

# One thing at least of each kind, no two of them the same.
THINGS = (
    0, 1, -1, 2, 10 ** 299, True, False, None, "", "a", "ab", "1", "True", [], (), [0], (0,), [1], [True], (True,), [""],
    [None], [[]], [()], ([],), ((),), [0, 1], (0, 1), [1, 0], [[0], [1]], ["a", "b"], ("a", "b"), [0, "a"], (0, [1, (2,)]),
    [True, False], [0, True], [[[]]], [[], []])
TRUTHS = [thing for thing in THINGS if isinstance(thing, bool)]
NUMBERS = [thing for thing in THINGS if isinstance(thing, int) and not isinstance(thing, bool)]
TEXTS = [thing for thing in THINGS if isinstance(thing, str)]
LISTS = [thing for thing in THINGS if isinstance(thing, list)]
TUPLES = [thing for thing in THINGS if isinstance(thing, tuple)]
# What of these goes astray at whatever thing, with the mark that it goes astray at.
LOST = ("sum(1)", "sum")


def others(*taken):
    """All things that are in none of the lists, told apart by kind too."""
    kept = [repr(thing) for group in taken for thing in group]
    return [thing for thing in THINGS if repr(thing) not in kept]


class SaidCase(unittest.TestCase):
    def says(self, text, thing, answer):
        with self.subTest(term=text, thing=thing):
            told = said(read_term(text), thing)
            self.assertEqual(told, answer)
            self.assertEqual(repr(told), repr(answer))

    def goes_astray(self, text, thing, mark):
        with self.subTest(term=text, thing=thing):
            with self.assertRaises(Astray) as caught:
                said(read_term(text), thing)
            self.assertEqual(caught.exception.mark, mark)
            self.assertIsInstance(caught.exception, CountError)


class MarksTest(SaidCase):
    def test_num_and_here(self):
        for thing in THINGS:
            self.says("here", thing, thing)
            for number in (0, 7, -7, 10 ** 59):
                self.says(str(number), thing, number)

    def test_part(self):
        for things in ([5, "b", None], (5, "b", None)):
            for place, answer in enumerate((5, "b", None)):
                self.says(f"part(here,{place})", things, answer)
            for place in (3, 4, 20):
                self.goes_astray(f"part(here,{place})", things, "part")
        for things in (list(range(100, 121)), tuple(range(100, 121))):
            self.says("part(here,20)", things, 120)
            self.goes_astray("part(here,20)", things[1:], "part")
        for nothing in ([], ()):
            self.goes_astray("part(here,0)", nothing, "part")
        # No such place can be read, nor does Python's counting from the end make one.
        with self.assertRaises(Astray):
            said(("part", (HERE, -1)), [5, 6])
        for thing in others(LISTS, TUPLES) + ["abc", {0: 1}]:
            self.goes_astray("part(here,0)", thing, "part")

    def test_count(self):
        for thing, answer in (([], 0), ((), 0), ("", 0), ([[], 1], 2), ((1, (), "a"), 3), ("a b", 3), ([None] * 2000, 2000)):
            self.says("count(here)", thing, answer)
        for thing in others(LISTS, TUPLES, TEXTS):
            self.goes_astray("count(here)", thing, "count")

    def test_sum(self):
        for thing, answer in (([], 0), ((), 0), ([5], 5), ((1, -2, 3), 2), ([10 ** 299] * 2, 2 * 10 ** 299), ([0] * 9, 0)):
            self.says("sum(here)", thing, answer)
        for thing in others(LISTS, TUPLES):
            self.goes_astray("sum(here)", thing, "sum")
        for thing in ([True], (0, False), [1, True, 2], ["a"], [1, "1"], [None], [[]], ([1], 2), [0, ()]):
            self.goes_astray("sum(here)", thing, "sum")

    def test_two_numbers(self):
        for one, other in itertools.product(NUMBERS, NUMBERS):
            pair = (one, other)
            self.says("plus(part(here,0),part(here,1))", pair, one + other)
            self.says("times(part(here,0),part(here,1))", pair, one * other)
            self.says("less(part(here,0),part(here,1))", pair, one < other)

    def test_no_two_numbers(self):
        for mark in ("plus", "times", "less"):
            for thing in others(NUMBERS):
                self.goes_astray(f"{mark}(here,1)", thing, mark)
                self.goes_astray(f"{mark}(1,here)", thing, mark)
                self.goes_astray(f"{mark}(here,here)", thing, mark)

    def test_not(self):
        self.says("not(here)", True, False)
        self.says("not(here)", False, True)
        for thing in others(TRUTHS):
            self.goes_astray("not(here)", thing, "not")

    def test_both(self):
        for one, other in itertools.product(TRUTHS, TRUTHS):
            self.says("both(part(here,0),part(here,1))", (one, other), one and other)
        for thing in others(TRUTHS):
            self.goes_astray("both(here,less(0,1))", thing, "both")
            self.goes_astray("both(here,less(1,0))", thing, "both")
            self.goes_astray("both(less(0,1),here)", thing, "both")
            self.says("both(less(1,0),here)", thing, False)

    def test_when(self):
        for first, second in itertools.product(THINGS[:12], THINGS):
            self.says("when(less(0,1),part(here,0),part(here,1))", (first, second), first)
            self.says("when(less(1,0),part(here,0),part(here,1))", (first, second), second)
        for thing in others(TRUTHS):
            self.goes_astray("when(here,1,2)", thing, "when")

    def test_each(self):
        for nothing in ([], ()):
            self.says("each(here,less(0,here))", nothing, True)
            self.says("each(here,sum(1))", nothing, True)
        for things, answer in (([1, 2], True), ((1, 2), True), ([0], False), ((2, 0, 3), False), ([3], True), ([2, 0], False)):
            self.says("each(here,less(0,here))", things, answer)
        for thing in others(LISTS, TUPLES):
            self.goes_astray("each(here,less(0,1))", thing, "each")

    def test_each_whose_second_says_no_truth(self):
        for thing in others(TRUTHS):
            self.goes_astray("each(here,here)", [thing], "each")
            self.goes_astray("each(here,here)", (True, thing), "each")
            self.says("each(here,here)", [True, False, thing], False)

    def test_here_within_each(self):
        self.says("each(here,each(here,less(0,here)))", [[1], (), (2, 3)], True)
        self.says("each(here,each(here,less(0,here)))", [[1], (2, 0)], False)
        self.says("each(part(here,1),less(count(here),2))", (7, ["a", "", [1]]), True)
        self.says("both(each(here,less(0,here)),same(count(here),2))", [1, 2], True)
        self.says("same(each(part(here,0),here),part(here,1))", ([True], True), True)

    def test_turned(self):
        for thing, answer in (([1, 2, 3], [3, 2, 1]), ((1, 2), (2, 1)), ("abc", "cba"), ([], []), ((), ()), ("", ""),
                              ([[1, 2], 3], [3, [1, 2]]), (("ab", (1, 2)), ((1, 2), "ab"))):
            self.says("turned(here)", thing, answer)
            self.says("turned(turned(here))", thing, thing)
        for thing in others(LISTS, TUPLES, TEXTS):
            self.goes_astray("turned(here)", thing, "turned")

    def test_joined(self):
        for one, other in itertools.product(LISTS, LISTS):
            self.says("joined(part(here,0),part(here,1))", (one, other), one + other)
        for one, other in itertools.product(TEXTS, TEXTS):
            self.says("joined(part(here,0),part(here,1))", [one, other], one + other)

    def test_what_is_not_joined(self):
        for thing in others(LISTS, TEXTS):
            self.goes_astray("joined(part(here,0),part(here,1))", (thing, thing), "joined")
        for first, fitting in (([], LISTS), ([1], LISTS), ("", TEXTS), ("a", TEXTS)):
            for thing in others(fitting):
                self.goes_astray("joined(part(here,0),part(here,1))", (first, thing), "joined")
                self.goes_astray("joined(part(here,1),part(here,0))", (first, thing), "joined")

    def test_same(self):
        for one, other in itertools.product(THINGS, THINGS):
            told = said(read_term("same(part(here,0),part(here,1))"), [one, copy.deepcopy(other)])
            self.assertIs(told, repr(one) == repr(other), (one, other))


class AskedTest(SaidCase):
    def test_the_field_is_the_mark_of_the_term_that_cannot_take_it(self):
        lost, mark = LOST
        self.goes_astray(lost, 0, mark)
        for text in ([f"{each}({lost})" for each in OF_ONE] + [f"{each}({lost},1)" for each in OF_TWO]
                     + [f"part({lost},0)", f"when({lost},1,2)", f"not(not({lost}))", f"plus(1,times(2,{lost}))"]):
            self.goes_astray(text, 0, mark)

    def test_from_the_left(self):
        for mark in OF_TWO:
            self.goes_astray(f"{mark}(not(0),{LOST[0]})", [], "not")
            self.goes_astray(f"{mark}({LOST[0]},not(0))", [], "sum")

    def test_looked_at_ahead_of_the_next_ones_being_asked(self):
        for mark in ("plus", "times", "less", "both", "each", "joined"):
            self.goes_astray(f"{mark}(here,{LOST[0]})", None, mark)
        self.goes_astray(f"when(here,{LOST[0]},{LOST[0]})", None, "when")
        for mark, thing in (("plus", 1), ("times", 1), ("less", 1), ("same", None), ("both", True), ("each", [0]),
                            ("joined", []), ("joined", "")):
            self.goes_astray(f"{mark}(here,{LOST[0]})", thing, "sum")

    def test_what_is_not_to_be_asked(self):
        lost = LOST[0]
        self.says(f"both(less(1,0),{lost})", 0, False)
        self.goes_astray(f"both(less(0,1),{lost})", 0, "sum")
        self.says(f"when(less(0,1),7,{lost})", 0, 7)
        self.says(f"when(less(1,0),{lost},8)", 0, 8)
        self.goes_astray(f"when(less(0,1),{lost},8)", 0, "sum")
        self.goes_astray(f"when(less(1,0),7,{lost})", 0, "sum")
        self.says(f"each(here,{lost})", [], True)

    def test_each_asks_up_to_the_first_false(self):
        term = "each(here,less(0,here))"
        self.says(term, [1, 0, "a"], False)
        self.says(term, (0, None), False)
        self.goes_astray(term, [1, "a", 0], "less")
        self.goes_astray(term, [1, 2, None], "less")
        self.goes_astray("each(here,plus(0,here))", [1, 2], "each")
        self.goes_astray("each(here,plus(0,here))", ["a"], "plus")


class ListsTest(unittest.TestCase):
    def all_its_own(self, told, thing):
        mine = [id(each) for each in lists_within(told)]
        self.assertEqual(len(mine), len(set(mine)))
        self.assertEqual(set(mine) & {id(each) for each in lists_within(thing)}, set())

    def test_lists_are_the_askers_own(self):
        shared = [1, [2]]
        thing = [shared, ([3], [[]]), "a", shared]
        kept = copy.deepcopy(thing)
        for text in ("here", "part(here,0)", "part(here,1)", "turned(here)", "turned(part(here,1))", "joined(here,here)",
                     "joined(part(here,0),part(here,0))", "joined(part(part(here,1),1),here)", "turned(part(here,0))",
                     "when(less(0,1),here,0)", "when(less(1,0),0,part(here,1))", "joined(turned(here),joined(here,here))"):
            with self.subTest(text):
                term = read_term(text)
                first = said(term, thing)
                self.all_its_own(first, thing)
                answer = copy.deepcopy(first)
                for each in lists_within(first):
                    each.append(7)
                self.assertEqual(thing, kept)
                self.assertEqual(said(term, thing), answer)
                self.all_its_own([first, said(term, thing)], thing)

    def test_joined_with_itself_within(self):
        thing = [[]]
        told = said(read_term("joined(here,here)"), thing)
        self.assertEqual(told, [[], []])
        told[0].append(1)
        self.assertEqual((told, thing), ([[1], []], [[]]))

    def test_lists_of_a_thing_that_change_later(self):
        thing = [[1], ([2],)]
        told = said(HERE, thing)
        thing[0].append(5)
        thing[1][0].clear()
        thing.append(0)
        self.assertEqual(told, [[1], ([2],)])

    def test_asking_changes_nothing(self):
        thing = [[3, 1], (2, [0]), "ab"]
        kept = copy.deepcopy(thing)
        for text in ("sum(part(here,0))", "each(here,same(here,here))", "same(here,turned(here))", "count(joined(here,here))"):
            said(read_term(text), thing)
            judge_of(read_term(text))(thing)
            self.assertEqual(thing, kept)

    def test_thirty_deep(self):
        for term, text in deep_terms(30):
            try:
                self.assertIsNotNone(said(term, 1))
            except Astray as lost:
                self.assertIn(lost.mark, text)
        deep = HERE
        for _ in range(29):
            deep = ("plus", (deep, num(1)))
        self.assertEqual(said(deep, 5), 34)
        deep = HERE
        for _ in range(29):
            deep = ("each", (HERE, deep))
        thing = True
        for _ in range(29):
            thing = [thing]
        self.assertIs(said(deep, thing), True)


class SameTest(unittest.TestCase):
    def test_each_with_each(self):
        for one, other in itertools.product(THINGS, THINGS):
            answer = repr(one) == repr(other)
            self.assertIs(same(one, copy.deepcopy(other)), answer, (one, other))
            self.assertIs(same([one], [other]), answer)
            self.assertIs(same((0, one), (0, other)), answer)
            self.assertIs(same([one], (other,)), False)

    def test_numbers_and_truths(self):
        for one, other in ((1, True), (0, False), (True, 1), (False, 0), ([1], [True]), ((0, 1), (0, True)), (True, False)):
            self.assertIs(same(one, other), False)
        self.assertIs(same(10 ** 299 + 1, 10 ** 299 + 1), True)
        self.assertIs(same(10 ** 299 + 1, 10 ** 299), False)

    def test_lists_and_tuples(self):
        for one, other in (([], ()), ((), []), ([1, 2], (1, 2)), ([[1]], [(1,)]), ([1, 2], [2, 1]), ([1], [1, 1]),
                           ((1, 1), (1,)), ([], [[]]), ([1, 2, 3], [1, 2, 4]), ([0, 2], [1, 2]), ([], None), ((), "")):
            self.assertIs(same(one, other), False, (one, other))
            self.assertIs(same(other, one), False)

    def test_texts_and_none(self):
        self.assertIs(same("ab", "a" + "b"), True)
        for one, other in (("ab", "ba"), ("a", "ab"), ("", None), ("1", 1), (None, 0), (None, False), ("a", ["a"]), (None, [])):
            self.assertIs(same(one, other), False)
            self.assertIs(same(other, one), False)
        self.assertIs(same(None, None), True)
        for thing in (object(), Stubborn()):
            for other in (None, 0, True, "", [], ()):
                self.assertIs(same(thing, other), False)
                self.assertIs(same(other, thing), False)

    def test_sixty_deep(self):
        def nested(inner):
            thing = inner
            for depth in range(60):
                thing = [thing, depth] if depth % 2 else (depth, thing)
            return thing

        self.assertIs(same(nested(1), nested(1)), True)
        self.assertIs(same(nested(1), nested(True)), False)
        self.assertIs(same(nested([]), nested(())), False)
        self.assertEqual(said(HERE, nested(1)), nested(1))

    def test_long_ones(self):
        self.assertIs(same(list(range(2000)), list(range(2000))), True)
        self.assertIs(same(list(range(2000)), list(range(1999)) + [0]), False)


class JudgeOfTest(unittest.TestCase):
    def test_true_where_it_says_true(self):
        judge = judge_of(read_term("less(here,5)"))
        for thing, answer in ((4, True), (5, False), (6, False), (-1, True), ("a", False), (True, False), (None, False)):
            self.assertIs(judge(thing), answer)
        self.assertIs(judge(4), True)

    def test_what_is_not_true(self):
        judge = judge_of(HERE)
        for thing in others(TRUTHS):
            self.assertIs(judge(thing), False, thing)
        self.assertIs(judge(True), True)
        self.assertIs(judge(False), False)
        self.assertIs(judge_of(num(1))(True), False)

    def test_astray_is_false(self):
        for text in (LOST[0], f"not({LOST[0]})", "not(here)", "part(here,0)", "both(here,here)", "each(here,here)"):
            self.assertIs(judge_of(read_term(text))(7), False)
        judge = judge_of(read_term("not(less(part(here,0),0))"))
        self.assertEqual([judge(thing) for thing in ([1], [], [-1], 5, (3,))], [True, False, False, False, True])

    def test_judges_stand_beside_one_another(self):
        less, more = judge_of(read_term("less(here,5)")), judge_of(read_term("less(5,here)"))
        self.assertEqual([(less(thing), more(thing)) for thing in (4, 5, 6)], [(True, False), (False, False), (False, True)])

    def test_thirty_deep(self):
        deep = HERE
        for _ in range(28):
            deep = ("not", deep)
        self.assertIs(judge_of(deep)(True), True)
        self.assertIs(judge_of(("not", deep))(True), False)


if __name__ == "__main__":
    unittest.main()
