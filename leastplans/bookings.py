"""Bookings: why a ceiling holds, part by part."""

from leastplans.ceilings import Ceilings, factor_apart, fan_places, kept_known, number_of, told_by
from leastplans.states import as_they_are
from leastplans.unitmarks import has_table


def booking(block, state, marks):
    """A booking of a closed state by marks whose product is the ceiling."""
    return booking_by(Ceilings(block), state, marks)


def booking_by(sizes, state, marks):
    found = []
    for part, known, factor in sizes.sequence_of(state, marks):
        found.append((part, known, factor, reason_of(sizes, part, marks, known, factor)))
    return tuple(found)


def reason_of(sizes, part, marks, known, factor):
    """A reason for the factor of a part."""
    units, is_squeezed = part
    if not is_squeezed:
        return reason_as_it_is(sizes, units[0], fan_places(sizes, units[0], marks, known))
    if factor_apart(sizes, units, known) == factor:
        return ("apart", factor)
    return ("within", booking_by(sizes, as_they_are(units), kept_known(sizes, units, known)))


def reason_as_it_is(sizes, u, places):
    unit = sizes.block.units[u]
    fan = sizes.fan(u, places)
    if not has_table(unit):
        return ("block", fan)
    return [fact for fact in told_by(unit, places) if number_of(fact) == fan][0]
