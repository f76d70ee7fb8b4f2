"""Notes: words with labels ahead and notes in brackets behind, read and shown."""

from countgen.errors import Crowded, NoNote

MOST_SIGNS = 2000
MOST_BRACKETS = 6
LONGEST_WORD = 62
LONGEST_LABEL = 8


def is_figure(sign):
    return "0" <= sign <= "9"


def is_small_letter(sign):
    return "a" <= sign <= "z"


def is_letter_or_figure(sign):
    return is_small_letter(sign) or "A" <= sign <= "Z" or is_figure(sign)


def is_word_sign(sign):
    return is_letter_or_figure(sign) or sign == "-"


def is_label(text):
    return 1 <= len(text) <= LONGEST_LABEL and all([is_small_letter(sign) for sign in text])


class NoteReader:
    def __init__(self, text):
        self.text = text
        self.place = 0

    def sign_here(self):
        # A slice is empty behind the end, so nobody has to ask where that is.
        return self.text[self.place:self.place + 1]

    def takes(self, sign):
        if self.sign_here() != sign:
            return False
        self.place += 1
        return True

    def word_signs(self):
        begin = self.place
        while is_word_sign(self.sign_here()):
            self.place += 1
        return self.text[begin:self.place]

    def labelled_note(self):
        label = ""
        word = self.word_signs()
        if self.takes(":"):
            label = word
            if not is_label(label):
                raise NoNote("a label is one to eight small letters")
            word = self.word_signs()
        if not 1 <= len(word) <= LONGEST_WORD:
            raise NoNote("a word is one to sixty-two letters, figures or -")
        return (label, word, self.bracketed_notes())

    def bracketed_notes(self):
        if not self.takes("("):
            return None
        if self.takes(")"):
            return ()
        notes = [self.labelled_note()]
        while self.takes(","):
            notes.append(self.labelled_note())
        if not self.takes(")"):
            raise NoNote("a bracket is not closed where it should be")
        return tuple(notes)

    def at_end(self):
        return self.place == len(self.text)


def refuse_crowded(text):
    if len(text) > MOST_SIGNS:
        raise Crowded("the text has more than two thousand signs")
    depth = 0
    for sign in text:
        if sign == "(":
            depth += 1
        elif sign == ")":
            # Below 0 too: it is the difference from the begin that counts.
            depth -= 1
        if depth > MOST_BRACKETS:
            raise Crowded("more than six brackets are left unclosed at one place")


def read_note(text):
    if not isinstance(text, str):
        raise NoNote("a note is a text")
    refuse_crowded(text)
    reader = NoteReader(text)
    note = reader.labelled_note()
    if not reader.at_end():
        raise NoNote("something stands behind the note's end")
    return note


def show_note(note):
    ahead = "" if note[0] == "" else note[0] + ":"
    if note[2] is None:
        return ahead + note[1]
    inner = ",".join([show_note(each) for each in note[2]])
    return ahead + note[1] + "(" + inner + ")"
