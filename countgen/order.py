"""Order: values of a shape weighed, each told by a key, and the keys stand in the values' order.

A key is a tuple: the value's size, then numbers and keys of the things within it,
such that of two keys of one shape the lesser tuple is that of the value ahead.
"""

from countgen.books import shape_of
from countgen.shapes import OF_ONE_PART


def is_whole_number(thing):
    return isinstance(thing, int) and not isinstance(thing, bool)


def branch_place(branches, mark):
    for place, branch in enumerate(branches):
        if branch[0] == mark:
            return place
    return None


def has_mark(branches, value):
    if not isinstance(value, tuple) or len(value) != 2:
        return False
    # Only a text is compared with the marks: another thing may not let itself be.
    return isinstance(value[0], str) and branch_place(branches, value[0]) is not None


# Whether a value is of a shape, but for the things within it and their order.
def has_form(shape, value):
    kind = shape[0]
    if kind == "whole":
        return is_whole_number(value) and shape[1] <= value <= shape[2]
    if kind == "text":
        return isinstance(value, str) and all([sign in shape[1] for sign in value])
    if kind == "row":
        return isinstance(value, tuple) and len(value) == len(shape[1])
    if kind == "pick":
        return has_mark(shape[1], value)
    if kind == "alike":
        return isinstance(value, list) and len(value) == shape[2]
    if kind in OF_ONE_PART:
        return isinstance(value, list)
    return True


# Pairs (shape, thing) for a value that has the form of its shape.
def things_within(book, shape, value):
    kind = shape[0]
    if kind == "row":
        return list(zip(shape[1], value))
    if kind == "pick":
        return [(shape[1][branch_place(shape[1], value[0])][1], value[1])]
    if kind == "use":
        return [(shape_of(book, shape[1]), value)]
    if kind == "alike" or kind in OF_ONE_PART:
        return [(shape[1], thing) for thing in value]
    return []


def sum_of_sizes(keys):
    return sum([key[0] for key in keys])


def none_ahead(keys):
    return all([one <= other for one, other in zip(keys, keys[1:])])


def all_behind(keys):
    return all([one < other for one, other in zip(keys, keys[1:])])


def all_alike(keys):
    return all([key == keys[0] for key in keys])


# Of things that rise, those of one size stand together.
def groups_by_size(keys):
    groups = []
    for key in keys:
        if len(groups) == 0 or groups[-1][0][0] != key[0]:
            groups.append([])
        groups[-1].append(key)
    return groups


def risen_key(size, keys):
    told = [size]
    for group in groups_by_size(keys):
        # Who has things of a size which the other has not comes behind, so a
        # greater next size comes ahead: hence the sign.
        told.extend([-group[0][0], len(group)])
        told.extend(group[::-1])
    return tuple(told)


def list_key(shape, keys):
    kind = shape[0]
    size = len(keys) + sum_of_sizes(keys)
    if kind == "many":
        return tuple([size] + keys)
    if kind == "alike":
        return tuple([size] + keys[:1]) if all_alike(keys) else None
    rises = none_ahead(keys) if kind == "rising" else all_behind(keys)
    return risen_key(size, keys) if rises else None


def key_made(shape, value, keys):
    kind = shape[0]
    if kind == "whole":
        return ((value - shape[1]).bit_length(), value)
    if kind == "text":
        return tuple([len(value)] + [shape[1].find(sign) for sign in value])
    if kind == "row":
        return tuple([sum_of_sizes(keys)] + keys)
    if kind == "pick":
        return (keys[0][0], branch_place(shape[1], value[0]), keys[0])
    if kind == "use":
        return (1 + keys[0][0], keys[0])
    return list_key(shape, keys)


# The key of a value, or None where it is not of the shape. It calls itself once
# for each shape within another, and no helper between, so that deep values are held.
def weighed(book, shape, value):
    if not has_form(shape, value):
        return None
    keys = []
    for part, thing in things_within(book, shape, value):
        key = weighed(book, part, thing)
        if key is None:
            return None
        keys.append(key)
    return key_made(shape, value, keys)
