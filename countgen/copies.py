"""Copies: a thing of one's own, the lists within it too."""


def copied(thing):
    if isinstance(thing, list):
        return [copied(each) for each in thing]
    if isinstance(thing, tuple):
        return tuple([copied(each) for each in thing])
    # No value of a shape is a dict, but what terms speak of and deeds may be.
    if isinstance(thing, dict):
        return dict([(key, copied(thing[key])) for key in thing])
    return thing
