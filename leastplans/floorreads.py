"""Reading floors."""


def floor_of(floors, state, order):
    """The least number for all plans of a state with an order, None if there is none."""
    _, rows, _ = floors
    return least_number([row[3] for row in rows if row[:3] == ("all", state, order)])


def give_floor(floors, order):
    """The least number for tops with an order of outputs, None if there is none."""
    _, rows, _ = floors
    return least_number([row[3] for row in rows if row[:3] == ("give", (), order)])


def least_number(numbers):
    return min(numbers, default=None)
