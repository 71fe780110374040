"""Switches that set themselves by comparing, and nets that so sort."""

from switchrows.errors import TooMany

MOST_SORTED = 10


def compared(net, row):
    """The row of numbers behind a net whose switches set themselves, and their setting."""
    numbers = list(row)
    setting = []
    for stage in net[1]:
        ways = tuple(1 if numbers[a] > numbers[b] else 0 for a, b in stage)
        for (a, b), way in zip(stage, ways):
            if way == 1:
                numbers[a], numbers[b] = numbers[b], numbers[a]
        setting.append(ways)
    return (tuple(numbers), tuple(setting))


def unsorted(net):
    """The first row of 0 and 1 that does not rise behind a net by comparing, or None; or TooMany."""
    many = net[0]
    if many > MOST_SORTED:
        raise TooMany("more than ten wires have too many rows to go through")
    for row in rows_of_bits(many):
        if not rises(compared(net, row)[0]):
            return row
    return None


def rows_of_bits(many):
    """All rows of 0 and 1 of so many wires, as tuples are compared."""
    rows = [()]
    for wire in range(many):
        rows = [row + (bit,) for row in rows for bit in (0, 1)]
    return rows


def rises(row):
    """Whether no number of a row is below the one ahead."""
    return all(one <= other for one, other in zip(row, row[1:]))
