"""How calls stand one behind another in one list of numbers."""

# By the call's number: how many whole numbers it has, and how many rows.
SHAPES = (
    (1, 1),
    (1, 0),
    (2, 0),
    (1, 1),
    (1, 0),
    (1, 0),
    (4, 0),
    (1, 2),
    (3, 1),
    (1, 1),
    (1, 0),
    (2, 0),
    (2, 0),
    (0, 1),
    (0, 2),
)


def rows_from(calls, start, count):
    """The rows, so many as count, the first of which has its length at start."""
    rows = []
    for row in range(count):
        begin = start + 1
        end = begin + calls[start]
        rows.append(calls[begin:end])
        start = end
    return rows


def split_calls(calls):
    """For each call its number, the list of its whole numbers, the list of its rows."""
    found = []
    position = 0
    while position < len(calls):
        shape = SHAPES[calls[position]]
        begin = position + 1
        end = begin + shape[0]
        rows = rows_from(calls, end, shape[1])
        found.append((calls[position], calls[begin:end], rows))
        position = end + sum([1 + len(row) for row in rows])
    return found
