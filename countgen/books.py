"""Books: names and their shapes, read of rows and shown in them."""

from countgen.errors import Crowded, NoGround, NoName, NoNote, Twice
from countgen.notes import is_label, refuse_crowded
from countgen.shapes import read_draft, refuse_no_range, refuse_twice, shapes_within, show_shape

MOST_ROWS = 8


def names_used(shape):
    names = []
    for inner in shapes_within(shape):
        if inner[0] == "use" and inner[1] not in names:
            names.append(inner[1])
    return names


def shape_of(book, name):
    for pair in book:
        if pair[0] == name:
            return pair[1]
    raise NoName("the book has no such name")


def refuse_crowded_rows(rows):
    if len(rows) > MOST_ROWS:
        raise Crowded("a book has at most eight rows")
    for row in rows:
        refuse_crowded(row.partition("=")[2])


def pair_drafted(row):
    parted = row.partition("=")
    if parted[1] == "":
        raise NoNote("a row of a book has a = between name and shape")
    if not is_label(parted[0]):
        raise NoNote("a name of one to eight small letters stands ahead of the =")
    return (parted[0], read_draft(parted[2]))


def refuse_twice_in_book(book):
    for name, shape in book:
        refuse_twice(shape)
    if len(set([name for name, shape in book])) < len(book):
        raise Twice("two names of a book are alike")


def refuse_no_name(book):
    for name, shape in book:
        for used in names_used(shape):
            # The answer is of no use here, only the refusal.
            shape_of(book, used)


def leads_back(book, name):
    reached = name
    # In as many steps as the book has pairs, every name that can be reached is.
    for step in range(len(book)):
        shape = shape_of(book, reached)
        if shape[0] != "use":
            return False
        reached = shape[1]
        if reached == name:
            return True
    return False


def refuse_no_ground(book):
    ring = [name for name, shape in book if leads_back(book, name)]
    if len(ring) > 0:
        raise NoGround(ring)


def read_book(text):
    if not isinstance(text, str):
        raise NoNote("a book is read of a text")
    rows = text.split("\n")
    refuse_crowded_rows(rows)
    book = [pair_drafted(row) for row in rows]
    refuse_twice_in_book(book)
    for name, shape in book:
        refuse_no_range(shape)
    refuse_no_name(book)
    refuse_no_ground(book)
    return book


def show_book(book):
    return "\n".join([name + "=" + show_shape(shape) for name, shape in book])
