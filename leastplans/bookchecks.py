"""Whether any value is a booking."""

from leastplans.ceilings import Ceilings, factor_apart, factor_as_it_is, fan_places, number_of, told_by
from leastplans.ceilings import kept_known, known_marks, may_stand, parts_counted
from leastplans.plain import same_value
from leastplans.states import as_they_are
from leastplans.unitmarks import has_table


def booking_fits(block, state, marks, paper):
    """True if paper is a booking of a closed state by marks, whatever its product."""
    return paper_fits(Ceilings(block), state, tuple(marks), paper)


def booked(paper):
    """The product of all factors of a booking."""
    product = 1
    for _, _, factor, _ in paper:
        product *= factor
    return product


def paper_fits(sizes, state, asked, paper):
    if not isinstance(paper, tuple):
        return False
    waiting = parts_counted(sizes.block, state)
    sees = ()
    for line in paper:
        if not isinstance(line, tuple) or len(line) != 4:
            return False
        part = part_told(waiting, line[0])
        if part is None or not may_stand(sizes.block, part, sees):
            return False
        known = known_marks(sizes.block, asked, sees)
        if not same_value(line[1], known) or not reason_fits(sizes, part, asked, known, line):
            return False
        waiting = [one for one in waiting if one != part]
        sees = sees + sizes.seen_at((part,))
    return waiting == []


def part_told(parts, told):
    """The one of the parts that is told, or None."""
    for part in parts:
        if same_value(told, part):
            return part
    return None


def reason_fits(sizes, part, asked, known, line):
    """True if the factor and the reason of a line are those of a part with these known marks."""
    _, _, factor, reason = line
    units, is_squeezed = part
    if not is_squeezed:
        return any([
            same_value(reason, told) and same_value(factor, factor_as_it_is(sizes, units[0], number))
            for told, number in reasons_let(sizes, units[0], fan_places(sizes, units[0], asked, known))
        ])
    apart = factor_apart(sizes, units, known)
    if same_value(reason, ("apart", apart)):
        return same_value(factor, apart)
    if not isinstance(reason, tuple) or len(reason) != 2 or not same_value(reason[0], "within"):
        return False
    inner = as_they_are(units)
    if not paper_fits(sizes, inner, kept_known(sizes, units, known), reason[1]):
        return False
    return same_value(factor, booked(reason[1]))


def reasons_let(sizes, u, places):
    """The reasons for a unit as it is, each with the number that it gives."""
    unit = sizes.block.units[u]
    if has_table(unit):
        return [(fact, number_of(fact)) for fact in told_by(unit, places)]
    fan = sizes.fan(u, places)
    return [(("block", fan), fan)]
