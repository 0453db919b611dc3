"""Numbers of binary figures."""


def lift(number):
    """0 for numbers up to 1, otherwise the number of binary figures of number - 1."""
    return 0 if number <= 1 else bits(number - 1)


def bits(number):
    """The number of binary figures, 0 for 0."""
    return number.bit_length()
