"""Rows: lists of deeds cut shorter, and shrunk while thing and model still go apart."""

from countgen.copies import copied
from countgen.deeds import deed_judge
from countgen.judging import refuse_no_value
from countgen.shrinking import shrunk_by
from countgen.steps import steps_of


def cuts(deeds):
    told = []
    length = len(deeds)
    while length > 0:
        told.extend([copied(deeds[:begin] + deeds[begin + length:]) for begin in range(0, len(deeds), length)])
        length = length // 2
    return told


def shrunk_deeds(book, shape, begin, done, model_begin, model_done, deeds):
    many = ("many", shape)
    refuse_no_value(book, many, deeds)
    judge = deed_judge(begin, done, model_begin, model_done)
    return shrunk_by(judge, deeds, lambda breach: cuts(breach) + steps_of(book, many, breach))
