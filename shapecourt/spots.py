"""Spots: ways into a value, step by step."""

from shapecourt.grounds import Ground
from shapecourt.kinds import fields_of


def kind_reached(ground, kind, spot):
    """The kind at a spot of a kind, None where it is no spot of it."""
    for make, i in spot:
        if ground.kinds.get(make) != kind or not ground.comes(make):
            return None
        fields = ground.fields[make]
        if not 0 <= i < len(fields):
            return None
        kind = fields[i]
    return kind


def is_spot(book, kind, thing):
    """Whether a tuple of pairs of a text and a whole number is a spot of a kind."""
    return kind_reached(Ground(book), kind, thing) is not None


def kind_at(book, kind, spot):
    """The kind at a spot of a kind."""
    if not spot:
        return kind
    make, i = spot[-1]
    return fields_of(book, make)[i]


def part_at(value, spot):
    """The part of a value at a spot, None where the value hasn't the spot."""
    part = value
    for make, i in spot:
        if not isinstance(part, tuple) or part[0] != make or not 0 <= i < len(part) - 1:
            return None
        part = part[1 + i]
    return part


def put_at(value, spot, part):
    """A value with another part at a spot that it has, all else as it was."""
    whole = part
    for length in reversed(range(len(spot))):
        around = part_at(value, spot[:length])
        place = 1 + spot[length][1]
        whole = around[:place] + (whole,) + around[place + 1:]
    return whole
