"""Sayings: what terms say of things, whether two things are the same, and the judges of terms."""

from countgen.copies import copied
from countgen.errors import Astray
from countgen.order import is_whole_number


def same_each(one, other):
    if len(one) != len(other):
        return False
    for mine, others in zip(one, other):
        if not same(mine, others):
            return False
    return True


def same(one, other):
    # By kinds first: Python holds 1 and True to be equal.
    if is_truth(one):
        return is_truth(other) and one == other
    if is_whole_number(one):
        return is_whole_number(other) and one == other
    if is_text(one):
        return is_text(other) and one == other
    if is_list(one):
        return is_list(other) and same_each(one, other)
    if isinstance(one, tuple):
        return isinstance(other, tuple) and same_each(one, other)
    return one is None and other is None


def is_truth(thing):
    return isinstance(thing, bool)


def is_text(thing):
    return isinstance(thing, str)


def is_list(thing):
    return isinstance(thing, list)


def is_list_or_tuple(thing):
    return isinstance(thing, (list, tuple))


def is_list_or_text(thing):
    return isinstance(thing, (list, str))


def is_list_tuple_or_text(thing):
    return isinstance(thing, (list, tuple, str))


def are_whole_numbers(thing):
    return is_list_or_tuple(thing) and all([is_whole_number(each) for each in thing])


# What an inner term says, looked at at once by the term of the mark around it.
def taken(mark, term, thing, can_take):
    found = told(term, thing)
    if not can_take(found):
        raise Astray(mark)
    return found


def part_told(body, thing):
    place = body[1]
    return taken("part", body[0], thing, lambda found: is_list_or_tuple(found) and 0 <= place < len(found))[place]


def numbers_told(mark, body, thing):
    one = taken(mark, body[0], thing, is_whole_number)
    other = taken(mark, body[1], thing, is_whole_number)
    if mark == "plus":
        return one + other
    if mark == "times":
        return one * other
    return one < other


def same_told(body, thing):
    return same(told(body[0], thing), told(body[1], thing))


def both_told(body, thing):
    return taken("both", body[0], thing, is_truth) and taken("both", body[1], thing, is_truth)


def when_told(body, thing):
    return told(body[1] if taken("when", body[0], thing, is_truth) else body[2], thing)


def each_told(body, thing):
    for inner in taken("each", body[0], thing, is_list_or_tuple):
        if not taken("each", body[1], inner, is_truth):
            return False
    return True


def joined_told(body, thing):
    one = taken("joined", body[0], thing, is_list_or_text)
    return one + taken("joined", body[1], thing, is_text if is_text(one) else is_list)


# Lists of the thing itself may stand in what is told here, more than once too.
def told(term, thing):
    mark = term[0]
    body = term[1]
    if mark == "num":
        return body
    if mark == "here":
        return thing
    if mark == "part":
        return part_told(body, thing)
    if mark == "count":
        return len(taken(mark, body, thing, is_list_tuple_or_text))
    if mark == "sum":
        return sum(taken(mark, body, thing, are_whole_numbers))
    if mark == "not":
        return not taken(mark, body, thing, is_truth)
    if mark == "turned":
        return taken(mark, body, thing, is_list_tuple_or_text)[::-1]
    if mark == "same":
        return same_told(body, thing)
    if mark == "both":
        return both_told(body, thing)
    if mark == "when":
        return when_told(body, thing)
    if mark == "each":
        return each_told(body, thing)
    if mark == "joined":
        return joined_told(body, thing)
    return numbers_told(mark, body, thing)


def said(term, thing):
    return copied(told(term, thing))


def says_true(term, thing):
    try:
        return told(term, thing) is True
    except Astray:
        return False


def judge_of(term):
    return lambda thing: says_true(term, thing)
