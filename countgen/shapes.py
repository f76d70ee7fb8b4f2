"""Shapes: which values there are, read of notes and shown as such."""

from countgen.errors import NoNote, NoRange, Twice
from countgen.notes import is_figure, is_label, is_letter_or_figure, read_note

MOST_FIGURES = 60
MOST_PARTS = 8
MOST_TIMES = 6
MOST_BRANCHES = 10
OF_ONE_PART = ("many", "rising", "unlike")


def is_number_word(word):
    if word == "0":
        return True
    figures = word[1:] if word.startswith("-") else word
    if not 1 <= len(figures) <= MOST_FIGURES:
        return False
    return figures[0] != "0" and all([is_figure(sign) for sign in figures])


def lone_word(note):
    if note[0] != "" or note[2] is not None:
        raise NoNote("a word without label and brackets belongs here")
    return note[1]


def number_drafted(note):
    word = lone_word(note)
    if not is_number_word(word):
        raise NoNote("a number is one to sixty figures, no noughts ahead, perhaps behind a -")
    return int(word)


def refuse_other_length(notes, least, most):
    if not least <= len(notes) <= most:
        raise NoNote("too few or too many stand in the brackets of a shape")


def whole_drafted(notes):
    refuse_other_length(notes, 2, 2)
    return ("whole", number_drafted(notes[0]), number_drafted(notes[1]))


def text_drafted(notes):
    refuse_other_length(notes, 1, 1)
    signs = lone_word(notes[0])
    if not all([is_letter_or_figure(sign) for sign in signs]):
        raise NoNote("the signs of a text are letters and figures")
    return ("text", signs)


def row_drafted(notes):
    refuse_other_length(notes, 0, MOST_PARTS)
    return ("row", tuple([shape_drafted(note) for note in notes]))


def one_part_drafted(kind, notes):
    refuse_other_length(notes, 1, 1)
    return (kind, shape_drafted(notes[0]))


def alike_drafted(notes):
    refuse_other_length(notes, 2, 2)
    times = number_drafted(notes[1])
    if not 1 <= times <= MOST_TIMES:
        raise NoNote("the times of an alike shape are from 1 to six")
    return ("alike", shape_drafted(notes[0]), times)


def branch_drafted(note):
    mark = note[0]
    if mark == "":
        raise NoNote("a branch of a pick has a mark")
    return (mark, shape_drafted(("", note[1], note[2])))


def pick_drafted(notes):
    refuse_other_length(notes, 1, MOST_BRANCHES)
    return ("pick", tuple([branch_drafted(note) for note in notes]))


def use_drafted(name):
    if not is_label(name):
        raise NoNote("a name is one to eight small letters")
    return ("use", name)


# A draft has the form of a shape, but may hold what Twice and NoRange refuse:
# these are due only when no other place of the whole text is due with NoNote.
def shape_drafted(note):
    if note[0] != "":
        raise NoNote("only the branches of a pick have labels")
    kind = note[1]
    notes = note[2]
    if notes is None:
        return use_drafted(kind)
    if kind == "whole":
        return whole_drafted(notes)
    if kind == "text":
        return text_drafted(notes)
    if kind == "row":
        return row_drafted(notes)
    if kind in OF_ONE_PART:
        return one_part_drafted(kind, notes)
    if kind == "alike":
        return alike_drafted(notes)
    if kind == "pick":
        return pick_drafted(notes)
    raise NoNote("there is no such kind of shape")


def read_draft(text):
    return shape_drafted(read_note(text))


def parts_of(shape):
    kind = shape[0]
    if kind == "row":
        return list(shape[1])
    if kind == "pick":
        return [part for mark, part in shape[1]]
    if kind == "alike" or kind in OF_ONE_PART:
        return [shape[1]]
    return []


# Each ahead of those within it, as they stand when the shape is written.
def shapes_within(shape):
    found = [shape]
    for part in parts_of(shape):
        found.extend(shapes_within(part))
    return found


def refuse_twice(draft):
    for shape in shapes_within(draft):
        if shape[0] == "text" and len(set(shape[1])) < len(shape[1]):
            raise Twice("two signs of a text are alike")
        if shape[0] == "pick" and len(set([mark for mark, part in shape[1]])) < len(shape[1]):
            raise Twice("two marks of a pick are alike")


def refuse_no_range(draft):
    for shape in shapes_within(draft):
        if shape[0] == "whole" and shape[1] > shape[2]:
            raise NoRange("a low is greater than its high")


def read_shape(text):
    draft = read_draft(text)
    refuse_twice(draft)
    refuse_no_range(draft)
    return draft


def shown_within(shape):
    kind = shape[0]
    if kind == "whole":
        return [str(shape[1]), str(shape[2])]
    if kind == "text":
        return [shape[1]]
    if kind == "pick":
        return [mark + ":" + show_shape(part) for mark, part in shape[1]]
    shown = [show_shape(part) for part in parts_of(shape)]
    if kind == "alike":
        shown.append(str(shape[2]))
    return shown


def show_shape(shape):
    if shape[0] == "use":
        return shape[1]
    return shape[0] + "(" + ",".join(shown_within(shape)) + ")"
