"""Deeds: done one after the other at a thing and at its model, until the two answer otherwise."""

from countgen.copies import copied
from countgen.sayings import same


def apart(begin, done, model_begin, model_done, deeds):
    state = begin()
    model_state = model_begin()
    for place, deed in enumerate(deeds):
        # Two copies: neither may see what the other does to the deed.
        pair = done(state, copied(deed))
        model_pair = model_done(model_state, copied(deed))
        if not same(pair[1], model_pair[1]):
            return place
        state = pair[0]
        model_state = model_pair[0]
    return None


def deed_judge(begin, done, model_begin, model_done):
    return lambda deeds: apart(begin, done, model_begin, model_done, deeds) is None
