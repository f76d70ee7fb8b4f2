"""Terms: the small language in which things are spoken of, read of notes and shown as such."""

from countgen.errors import NoNote
from countgen.notes import read_note
from countgen.shapes import is_number_word, number_drafted

LAST_PLACE = 20
OF_ONE_TERM = ("count", "sum", "not", "turned")
OF_TWO_TERMS = ("plus", "times", "less", "same", "both", "each", "joined")


def refuse_other_many(notes, many):
    if len(notes) != many:
        raise NoNote("too few or too many stand in the brackets of a term")


def place_of_note(note):
    place = number_drafted(note)
    if not 0 <= place <= LAST_PLACE:
        raise NoNote("a place is from 0 to twenty")
    return place


def part_of_notes(notes):
    refuse_other_many(notes, 2)
    return ("part", (term_of_note(notes[0]), place_of_note(notes[1])))


def one_of_notes(mark, notes):
    refuse_other_many(notes, 1)
    return (mark, term_of_note(notes[0]))


def several_of_notes(mark, notes, many):
    refuse_other_many(notes, many)
    return (mark, tuple([term_of_note(note) for note in notes]))


def term_of_word(word):
    if word == "here":
        return ("here", ())
    if is_number_word(word):
        return ("num", int(word))
    raise NoNote("a term without brackets is a number or here")


def term_of_note(note):
    if note[0] != "":
        raise NoNote("a term has no labels")
    mark = note[1]
    notes = note[2]
    if notes is None:
        return term_of_word(mark)
    if mark == "part":
        return part_of_notes(notes)
    if mark in OF_ONE_TERM:
        return one_of_notes(mark, notes)
    if mark in OF_TWO_TERMS:
        return several_of_notes(mark, notes, 2)
    if mark == "when":
        return several_of_notes(mark, notes, 3)
    raise NoNote("no term with brackets has such a mark")


def read_term(text):
    return term_of_note(read_note(text))


def inner_terms(term):
    mark = term[0]
    if mark in OF_ONE_TERM:
        return [term[1]]
    if mark == "part":
        return [term[1][0]]
    if mark == "when" or mark in OF_TWO_TERMS:
        return list(term[1])
    return []


def show_term(term):
    mark = term[0]
    if mark == "num":
        return str(term[1])
    if mark == "here":
        return mark
    shown = [show_term(inner) for inner in inner_terms(term)]
    if mark == "part":
        shown.append(str(term[1][1]))
    return mark + "(" + ",".join(shown) + ")"
