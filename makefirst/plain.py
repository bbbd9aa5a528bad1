"""Questions about values of which nothing is known yet."""


def is_sequence(value):
    """Whether any value is a list or a tuple."""
    return isinstance(value, (list, tuple))


def is_whole(value):
    """Whether any value is an integer."""
    return isinstance(value, int) and not isinstance(value, bool)


def is_below(value, limit):
    """Whether any value is a number below the limit."""
    return is_whole(value) and 0 <= value < limit


def are_below(value, limit):
    """Whether any value is a sequence of numbers below the limit."""
    return is_sequence(value) and is_row(value, [limit] * len(value))


def are_ascending(value, limit):
    """Whether any value is an ascending sequence of numbers below the limit."""
    return are_below(value, limit) and list(value) == sorted(set(value))


def is_row(value, limits):
    """Whether any value is a sequence of one number for each limit, below it."""
    if not is_sequence(value) or len(value) != len(limits):
        return False
    for item, limit in zip(value, limits):
        if not is_below(item, limit):
            return False
    return True
