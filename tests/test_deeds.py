import copy
import itertools
import unittest

from countgen.deeds import apart, deed_judge
from countgen.shapes import read_shape
from tests.plainly import lists_within
from tests.test_sayings import THINGS

# A deed at a store of numbers: one put in, or one taken out.
DEED = read_shape("pick(put:whole(0,9),take:row())")
TAKE = ("take", ())


def empty():
    return []


def queue_done(state, deed):
    """What was put in first is taken out first; the state is changed and told again."""
    if deed[0] == "put":
        state.append(deed[1])
        return state, len(state)
    return state, state.pop(0) if state else None


def stack_done(state, deed):
    """What was put in last is taken out first; the next state is another list."""
    if deed[0] == "put":
        return state + [deed[1]], len(state) + 1
    return state[:-1], state[-1] if state else None


def queue_and_stack():
    """The four functions in the order in which they are handed in."""
    return empty, queue_done, empty, stack_done


def put(number):
    return ("put", number)


def nothing():
    return None


def answers(state, deed):
    """A thing that answers just the deed."""
    return state, deed


def first_of(state, deed):
    return state, deed[0]


def second_of(state, deed):
    return state, deed[1]


class Counted:
    """A thing that keeps what was asked of it."""

    def __init__(self, done):
        self.begun = 0
        self.handed = []
        self.inner = done

    def begin(self):
        self.begun += 1
        return []

    def done(self, state, deed):
        self.handed.append(deed)
        return self.inner(state, deed)


class ApartTest(unittest.TestCase):
    def test_queue_and_stack(self):
        for deeds, place in (([], None), ([TAKE], None), ([put(1), TAKE], None), ([put(1), put(2)], None),
                             ([put(1), put(2), TAKE], 2), ([put(1), put(1), TAKE], None), ([put(3), TAKE, TAKE], None),
                             ([put(1), put(1), put(2), TAKE, TAKE], 3), ([TAKE, put(0), put(1), put(0), TAKE, put(2), TAKE], 6)):
            kept = copy.deepcopy(deeds)
            self.assertEqual(apart(*queue_and_stack(), deeds), place, deeds)
            self.assertEqual(apart(empty, stack_done, empty, queue_done, deeds), place)
            self.assertIsNone(apart(empty, queue_done, empty, queue_done, deeds))
            self.assertEqual(deeds, kept)

    def test_answers_that_are_the_same(self):
        for one, other in itertools.product(THINGS, THINGS):
            deeds = [(None, None), (one, copy.deepcopy(other))]
            told = apart(nothing, first_of, nothing, second_of, deeds)
            self.assertEqual(told, None if repr(one) == repr(other) else 1, (one, other))

    def test_answers_of_other_kinds(self):
        for one, other in ((1, True), (0, False), ([1], (1,)), ([], ()), ([True], [1]), (None, False), ("", None), ((1, [2]), (1, (2,)))):
            self.assertEqual(apart(nothing, first_of, nothing, second_of, [(one, other)]), 0)
            self.assertEqual(apart(nothing, second_of, nothing, first_of, [(one, other)]), 0)
            self.assertIsNone(apart(nothing, first_of, nothing, first_of, [(one, other)]))

    def test_the_place_is_a_whole_number(self):
        told = apart(nothing, first_of, nothing, second_of, [(1, 2)])
        self.assertIs(type(told), int)
        self.assertEqual(told, 0)

    def test_no_deed_is_done_behind_it(self):
        for place in range(5):
            deeds = [(0, 0)] * place + [(0, 1)] + [(0, 0), (0, 1)]
            one, other = Counted(first_of), Counted(second_of)
            self.assertEqual(apart(one.begin, one.done, other.begin, other.done, deeds), place)
            self.assertEqual((one.handed, other.handed), (deeds[:place + 1], deeds[:place + 1]))
            self.assertEqual((one.begun, other.begun), (1, 1))

    def test_all_are_done_where_they_do_not_go_apart(self):
        deeds = [(number, number) for number in range(40)]
        one, other = Counted(first_of), Counted(second_of)
        self.assertIsNone(apart(one.begin, one.done, other.begin, other.done, deeds))
        self.assertEqual((one.handed, other.handed), (deeds, deeds))

    def test_no_deeds(self):
        def never(state, deed):
            raise AssertionError("there is no deed to be done")

        self.assertIsNone(apart(empty, never, empty, never, []))

    def test_each_time_both_begin_anew(self):
        one, other = Counted(queue_done), Counted(stack_done)
        for times in range(1, 4):
            self.assertEqual(apart(one.begin, one.done, other.begin, other.done, [put(1), put(2), TAKE]), 2)
            self.assertEqual((one.begun, other.begun), (times, times))

    def test_states_go_from_deed_to_deed(self):
        def count_up(state, deed):
            return state + 1, state

        def length(state, deed):
            state.append(deed)
            return state, len(state) - 1

        self.assertIsNone(apart(lambda: 0, count_up, empty, length, ["a"] * 30))
        self.assertEqual(apart(lambda: 1, count_up, empty, length, ["a"] * 30), 0)

    def test_the_told_state_is_the_next_one(self):
        def swaps(state, deed):
            state.append("changed, but not told")
            return [deed], list(state)

        def plain(state, deed):
            return deed, [state, "changed, but not told"] if state else ["changed, but not told"]

        self.assertIsNone(apart(empty, swaps, nothing, plain, ["a", "b", "c"]))

    def test_answers_that_are_states(self):
        def told_state(state, deed):
            state.append(deed)
            return state, state

        self.assertIsNone(apart(empty, told_state, empty, told_state, [1, [2], (3, [4])]))

    def test_each_deed_is_one_of_its_own(self):
        inner = [1]
        deeds = [[inner, inner], ("a", [inner]), inner, inner]
        one, other = Counted(answers), Counted(answers)
        self.assertIsNone(apart(one.begin, one.done, other.begin, other.done, deeds))
        self.assertEqual((one.handed, other.handed), (deeds, deeds))
        mine = [id(each) for each in lists_within([one.handed, other.handed])]
        self.assertEqual(len(mine), len(set(mine)))
        self.assertEqual(set(mine) & {id(each) for each in lists_within(deeds)}, set())

    def test_both_may_change_the_deed(self):
        def spoils(state, deed):
            answer = copy.deepcopy(deed)
            for each in lists_within(deed):
                each.append("spoilt")
            return state, answer

        deeds = [[1, [2]], ("a", [[], []]), []]
        kept = copy.deepcopy(deeds)
        for done, model_done in ((spoils, spoils), (spoils, answers), (answers, spoils)):
            self.assertIsNone(apart(nothing, done, nothing, model_done, deeds))
            self.assertEqual(deeds, kept)

    def test_deeds_that_are_dicts(self):
        def spoils(state, deed):
            answer = deed["a"][:]
            deed["a"].append(1)
            deed["b"] = 2
            return state, answer

        deeds = [{"a": []}, {"a": [5]}]
        self.assertIsNone(apart(nothing, spoils, nothing, spoils, deeds))
        self.assertEqual(deeds, [{"a": []}, {"a": [5]}])

    def test_many_deeds(self):
        self.assertIsNone(apart(empty, queue_done, empty, queue_done, [put(7), TAKE] * 1000))
        self.assertEqual(apart(*queue_and_stack(), [put(7), TAKE] * 998 + [put(1), put(2), TAKE]), 1998)


class DeedJudgeTest(unittest.TestCase):
    def test_several_lists_in_turn(self):
        judge = deed_judge(*queue_and_stack())
        asked = ([], [put(1), put(2), TAKE], [put(1), TAKE], [put(1), put(2), TAKE], [TAKE], [put(3), put(2)])
        self.assertEqual([judge(deeds) for deeds in asked], [True, False, True, False, True, True])

    def test_true_and_false(self):
        judge = deed_judge(nothing, first_of, nothing, second_of)
        self.assertIs(judge([]), True)
        self.assertIs(judge([(1, 1)]), True)
        # The place 0 is where they go apart, not that they do not.
        self.assertIs(judge([(1, 2)]), False)

    def test_both_begin_anew_at_each_asking(self):
        one, other = Counted(queue_done), Counted(stack_done)
        judge = deed_judge(one.begin, one.done, other.begin, other.done)
        self.assertEqual((one.begun, other.begun), (0, 0))
        self.assertEqual([judge([put(1), put(2)]) for _ in range(3)], [True] * 3)
        self.assertEqual((one.begun, other.begun), (3, 3))

    def test_lists_stay(self):
        deeds = [put(1), put(2), TAKE]
        self.assertIs(deed_judge(*queue_and_stack())(deeds), False)
        self.assertEqual(deeds, [put(1), put(2), TAKE])


if __name__ == "__main__":
    unittest.main()
