"""What the program tells by tables and keys, here told slowly, word by word, to hold it against that."""

import contextlib
import functools
import itertools
import math
import signal

from countgen.books import read_book
from countgen.shapes import read_shape

LISTS = ("many", "rising", "unlike", "alike")

# Pairs of texts (book, shape): each kind, and each within others.
SAMPLES = (
    ("", "whole(0,0)"),
    ("", "whole(-3,10)"),
    ("", "whole(5,8)"),
    ("", "whole(0,100)"),
    ("", f"whole(-{10 ** 59},{10 ** 59})"),
    ("", "text(a)"),
    ("", "text(ba0)"),
    ("", "row()"),
    ("", "row(whole(0,5))"),
    ("", "row(whole(-1,2),text(ab),whole(0,3))"),
    ("", "row(row(),text(a),row(whole(0,1),text(xy)),row(),whole(0,1),row(),text(a),whole(7,7))"),
    ("", "many(row())"),
    ("", "many(whole(0,2))"),
    ("", "many(text(ab))"),
    ("", "many(many(whole(0,1)))"),
    ("", "rising(row())"),
    ("", "rising(whole(0,9))"),
    ("", "rising(text(ab))"),
    ("", "rising(many(whole(0,1)))"),
    ("", "rising(rising(whole(0,2)))"),
    ("", "unlike(row())"),
    ("", "unlike(whole(0,9))"),
    ("", "unlike(text(abc))"),
    ("", "unlike(unlike(text(ab)))"),
    ("", "unlike(rising(many(row())))"),
    ("", "rising(alike(text(ab),2))"),
    ("", "alike(text(abc),1)"),
    ("", "alike(whole(0,9),2)"),
    ("", "alike(many(text(ab)),3)"),
    ("", "alike(row(),6)"),
    ("", "alike(alike(text(ab),2),2)"),
    ("", "pick(a:whole(0,3))"),
    ("", "pick(b:text(ab),a:whole(0,5),c:row())"),
    ("", "pick(a:many(row()),b:pick(b:text(z),a:text(yx)))"),
    ("", "rising(pick(b:whole(0,1),a:row()))"),
    ("bit=whole(0,1)", "bit"),
    ("bit=whole(0,1)\npair=row(bit,bit)\nmore=pair", "more"),
    ("tree=pick(leaf:whole(0,1),node:row(tree,tree))", "tree"),
    ("tree=pick(leaf:row(),node:many(tree))", "tree"),
    ("bag=rising(bag)", "bag"),
    ("set=unlike(set)", "set"),
    ("odd=pick(end:row(),more:row(text(a),even))\neven=row(text(b),odd)", "row(odd,even)"),
    ("a=pick(x:rising(b),y:whole(0,1))\nb=pick(x:unlike(a),y:alike(a,2))", "row(a,b)"),
    ("never=row(never)", "never"),
    ("never=row(never)", "many(never)"),
    ("never=row(never)", "rising(row(text(ab),never))"),
    ("never=alike(never,1)\nsome=pick(a:never,b:text(xy))", "unlike(some)"),
    ("far=row(row(near),text(a))\nnear=pick(a:last)\nlast=alike(text(ab),3)", "far"),
)


def read_sample(sample):
    book_text, shape_text = sample
    return ([] if book_text == "" else read_book(book_text)), read_shape(shape_text)


def named(book, name):
    return dict(book)[name]


def parted(shape, value):
    return list(zip(shape[1], value))


def chosen(shape, value):
    return dict(shape[1])[value[0]]


def plain_size(book, shape, value):
    kind = shape[0]
    if kind == "whole":
        return 0 if value == shape[1] else len(bin(value - shape[1])) - 2
    if kind == "text":
        return len(value)
    if kind == "row":
        return sum([plain_size(book, part, thing) for part, thing in parted(shape, value)])
    if kind == "pick":
        return plain_size(book, chosen(shape, value), value[1])
    if kind == "use":
        return 1 + plain_size(book, named(book, shape[1]), value)
    return sum([1 + plain_size(book, shape[1], thing) for thing in value])


def first_apart(answers):
    return next((answer for answer in answers if answer != 0), 0)


def sign_of(number):
    return (number > 0) - (number < 0)


def plain_compared(book, shape, one, other):
    sizes = plain_size(book, shape, one), plain_size(book, shape, other)
    if sizes[0] != sizes[1]:
        return sign_of(sizes[0] - sizes[1])
    kind = shape[0]
    if kind == "whole":
        return sign_of(one - other)
    if kind == "text":
        return first_apart(sign_of(shape[1].index(a) - shape[1].index(b)) for a, b in zip(one, other))
    if kind == "row":
        return first_apart(plain_compared(book, *each) for each in zip(shape[1], one, other))
    if kind == "pick":
        marks = [mark for mark, part in shape[1]]
        if one[0] != other[0]:
            return sign_of(marks.index(one[0]) - marks.index(other[0]))
        return plain_compared(book, chosen(shape, one), one[1], other[1])
    if kind == "use":
        return plain_compared(book, named(book, shape[1]), one, other)
    if kind == "alike":
        return plain_compared(book, shape[1], one[0], other[0])
    if kind == "many":
        return first_apart(plain_compared(book, shape[1], a, b) for a, b in zip(one, other))
    return risen_compared(book, shape[1], one, other)


def risen_compared(book, part, one, other):
    for size in range(max([plain_size(book, part, thing) for thing in one + other], default=0) + 1):
        mine = [thing for thing in one if plain_size(book, part, thing) == size]
        others = [thing for thing in other if plain_size(book, part, thing) == size]
        if len(mine) != len(others):
            return sign_of(len(mine) - len(others))
        apart = first_apart(plain_compared(book, part, a, b) for a, b in zip(mine[::-1], others[::-1]))
        if apart != 0:
            return apart
    return 0


def is_kept(book, shape, value):
    pairs = [plain_compared(book, shape[1], a, b) for a, b in zip(value, value[1:])]
    if shape[0] == "rising":
        return all(answer <= 0 for answer in pairs)
    if shape[0] == "unlike":
        return all(answer < 0 for answer in pairs)
    return len(value) == shape[2] and all(answer == 0 for answer in pairs)


def rows_of(book, parts, size):
    if not parts:
        return [()] if size == 0 else []
    return [
        (thing, *rest) for first in range(size + 1)
        for thing in plain_values(book, parts[0], first) for rest in rows_of(book, parts[1:], size - first)]


def manys_of(book, part, size):
    if size == 0:
        return [[]]
    return [
        [thing, *rest] for first in range(size)
        for thing in plain_values(book, part, first) for rest in manys_of(book, part, size - 1 - first)]


def unsorted_values(book, shape, size):
    kind = shape[0]
    if kind == "whole":
        near = range(shape[1], min(shape[2], shape[1] + 2 ** size) + 1)
        return [value for value in near if plain_size(book, shape, value) == size]
    if kind == "text":
        return ["".join(signs) for signs in itertools.product(shape[1], repeat=size)]
    if kind == "row":
        return rows_of(book, shape[1], size)
    if kind == "pick":
        return [(mark, thing) for mark, part in shape[1] for thing in plain_values(book, part, size)]
    if kind == "use":
        return [] if size == 0 else plain_values(book, named(book, shape[1]), size - 1)
    return [value for value in manys_of(book, shape[1], size) if kind == "many" or is_kept(book, shape, value)]


def plain_values(book, shape, size):
    """All values of the shape and size, gone through one by one, in their order."""
    key = functools.cmp_to_key(lambda one, other: plain_compared(book, shape, one, other))
    return sorted(unsorted_values(book, shape, size), key=key)


def rest_counted(book, parts, size):
    if not parts:
        return int(size == 0)
    return sum([
        plain_count(book, parts[0], first) * rest_counted(book, parts[1:], size - first) for first in range(size + 1)])


def ways_of_having(size, least=0):
    """All dicts {size of a thing: how many} whose sizes, and 1 for each thing, come to the size."""
    if size == 0:
        yield {}
    elif least < size:
        for many in range(size // (least + 1) + 1):
            for rest in ways_of_having(size - many * (least + 1), least + 1):
                yield {least: many, **rest}


def chosen_counted(book, shape, size):
    total = 0
    for ways in ways_of_having(size):
        product = 1
        for each, many in ways.items():
            among = plain_count(book, shape[1], each)
            if shape[0] == "rising" and many > 0:
                among = among + many - 1 if among > 0 else 0
            product *= math.comb(among, many)
        total += product
    return total


@functools.cache
def plain_count(book, shape, size):
    """The count as the document puts it, kind by kind; here the book is a tuple."""
    kind = shape[0]
    if kind == "whole":
        first, behind = (0, 1) if size == 0 else (2 ** (size - 1), 2 ** size)
        return max(0, min(behind, shape[2] - shape[1] + 1) - first)
    if kind == "text":
        return len(shape[1]) ** size
    if kind == "row":
        return rest_counted(book, shape[1], size)
    if kind == "many":
        return 1 if size == 0 else sum([
            plain_count(book, shape[1], first) * plain_count(book, shape, size - 1 - first) for first in range(size)])
    if kind == "pick":
        return sum([plain_count(book, part, size) for mark, part in shape[1]])
    if kind == "use":
        return 0 if size == 0 else plain_count(book, named(book, shape[1]), size - 1)
    if kind == "alike":
        whole = size >= shape[2] and size % shape[2] == 0
        return plain_count(book, shape[1], size // shape[2] - 1) if whole else 0
    return chosen_counted(book, shape, size)


def within(book, shape, value):
    """Pairs (shape, thing) of all that stands in a value, by whatever shapes, each ahead of those within it."""
    kind = shape[0]
    if kind == "row":
        inner = parted(shape, value)
    elif kind == "pick":
        inner = [(chosen(shape, value), value[1])]
    elif kind == "use":
        inner = [(named(book, shape[1]), value)]
    else:
        inner = [(shape[1], thing) for thing in value] if kind in LISTS else []
    for part, thing in inner:
        yield part, thing
        yield from within(book, part, thing)


def plain_least(book, shape, below):
    for size in range(below):
        for value in plain_values(book, shape, size):
            return value
    return None


def replaced(things, place, thing):
    return [*things[:place], thing, *things[place + 1:]]


def list_steps(book, shape, value):
    for place in range(len(value)):
        yield value[:place] + value[place + 1:]
    for place, thing in enumerate(value):
        for step in plain_steps(book, shape[1], thing):
            yield replaced(value, place, step)


def plain_steps(book, shape, value):
    """The steps of a value as the document puts them, kind by kind."""
    kind = shape[0]
    if kind == "whole":
        distance = value - shape[1]
        return [shape[1] + (distance >> by) for by in range(distance.bit_length(), 0, -1)]
    if kind == "text":
        return ["".join(signs) for signs in list(itertools.combinations(value, len(value) - 1))[::-1]] if value else []
    if kind == "row":
        return [
            tuple(replaced(value, place, step)) for place, (part, thing) in enumerate(parted(shape, value))
            for step in plain_steps(book, part, thing)]
    if kind == "pick":
        marks = [mark for mark, part in shape[1]]
        leasts = [
            (mark, plain_least(book, part, plain_size(book, shape, value)))
            for mark, part in shape[1][:marks.index(value[0])]]
        own = [(value[0], step) for step in plain_steps(book, chosen(shape, value), value[1])]
        return [step for step in leasts if step[1] is not None] + own
    if kind == "use":
        inner = [thing for part, thing in within(book, shape, value) if part == shape]
        return inner + plain_steps(book, named(book, shape[1]), value)
    if kind == "alike":
        return [[step] * shape[2] for step in plain_steps(book, shape[1], value[0])]
    return [step for step in list_steps(book, shape, value) if kind == "many" or is_kept(book, shape, step)]


@contextlib.contextmanager
def at_once(seconds=20):
    """Ends what takes far longer than it may; the seconds are many, since machines may be busy."""
    def too_long(number, frame):
        raise AssertionError(f"not answered within {seconds} seconds")

    before = signal.signal(signal.SIGALRM, too_long)
    signal.alarm(seconds)
    try:
        yield
    finally:
        signal.alarm(0)
        signal.signal(signal.SIGALRM, before)


def lists_within(thing):
    """Every list in a thing, each as often as it stands there."""
    found = [thing] if isinstance(thing, list) else []
    for inner in thing if isinstance(thing, (list, tuple)) else ():
        found.extend(lists_within(inner))
    return found


def deep_samples():
    """Triples (book, shape, value) that lead through just a hundred and twenty shapes."""
    for kind in ("many", "rising", "unlike"):
        value = []
        for _ in range(59):
            value = [value]
        yield read_book(f"deep={kind}(deep)"), ("use", "deep"), value
    value = ("end", ())
    for _ in range(39):
        value = ("more", (value,))
    yield read_book("deep=pick(end:row(),more:row(deep))"), ("use", "deep"), value
    value = ("end", 0)
    for _ in range(39):
        value = ("more", [value])
    yield read_book("deep=pick(end:whole(0,1),more:alike(deep,1))"), ("use", "deep"), value
