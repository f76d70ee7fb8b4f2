"""Kinds: which terms say numbers and which truths of whole numbers, and the books of such terms."""

from countgen.terms import inner_terms

NUMBER = "number"
TRUTH = "truth"
TWO_NUMBERS = ("number", "number")
TWO_TRUTHS = ("truth", "truth")


def kind_by(mark, inner):
    if mark in ("num", "here"):
        return NUMBER
    if mark in ("plus", "times") and inner == TWO_NUMBERS:
        return NUMBER
    if mark in ("less", "same") and inner == TWO_NUMBERS:
        return TRUTH
    if mark == "not" and inner == (TRUTH,):
        return TRUTH
    if mark == "both" and inner == TWO_TRUTHS:
        return TRUTH
    if mark == "when" and inner[0] == TRUTH and inner[1] == inner[2]:
        return inner[1]
    return None


def kind_of(term):
    return kind_by(term[0], tuple([kind_of(inner) for inner in inner_terms(term)]))


def row_of_uses(names):
    return ("row", tuple([("use", name) for name in names]))


def num_branch(high):
    return ("num", ("whole", 0, high))


def here_branch():
    return ("here", ("row", ()))


def raw_book(high):
    two = row_of_uses(("term", "term"))
    three = row_of_uses(("term", "term", "term"))
    branches = (
        num_branch(high), here_branch(), ("plus", two), ("times", two), ("less", two), ("same", two),
        ("not", ("use", "term")), ("both", two), ("when", three))
    return [("term", ("pick", branches))]


def kinded_book(high):
    numbers = row_of_uses(TWO_NUMBERS)
    number_branches = (
        num_branch(high), here_branch(), ("plus", numbers), ("times", numbers),
        ("when", row_of_uses((TRUTH, NUMBER, NUMBER))))
    truth_branches = (
        ("less", numbers), ("same", numbers), ("not", ("use", TRUTH)), ("both", row_of_uses(TWO_TRUTHS)),
        ("when", row_of_uses((TRUTH, TRUTH, TRUTH))))
    return [(NUMBER, ("pick", number_branches)), (TRUTH, ("pick", truth_branches))]
