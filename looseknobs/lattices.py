"""Rows of integers that make 0 with others, told in one way."""


def sum_of_products(one, other):
    """What two rows make: the sum of their products, place by place."""
    return sum([many * more for many, more in zip(one, other)])


def level_rows(vectors, size):
    """Rows of so many integers whose sums of multiples are all that make 0 with each vector."""
    rows = [[1 if place == at else 0 for place in range(size)] for at in range(size)]
    for vector in vectors:
        rows = _level_to(rows, vector)
    return stairs(rows, size)


# Told in the one way: each row's first integer other than 0 is above 0 and
# stands behind that of the row ahead, and where it stands, the rows ahead have
# integers from 0 to less than it.
def stairs(rows, size):
    """The rows, as tuples, that have the same sums of multiples and are told in the one way."""
    done = []
    for place in range(size):
        rows = _cleared(rows, [row[place] for row in rows])
        if len(rows) > 0 and rows[0][place] != 0:
            first = _times(rows[0], -1) if rows[0][place] < 0 else rows[0]
            done = [_less(row, first, row[place] // first[place]) for row in done]
            done.append(first)
            rows = rows[1:]
    return tuple([tuple(row) for row in done])


def _level_to(rows, vector):
    """The rows whose sums of multiples are those of these rows that make 0 with this vector."""
    made = _cleared(rows, [sum_of_products(row, vector) for row in rows])
    if len(made) > 0 and sum_of_products(made[0], vector) != 0:
        return made[1:]
    return made


# Each row has a number that goes along with it: where a multiple of one row
# is taken from another one, the same is done to the numbers.
def _cleared(rows, numbers):
    """Rows with the same sums of multiples, of which only the first one has a number other than 0, if any has."""
    rows = list(rows)
    numbers = list(numbers)
    least = _least(numbers)
    while least is not None:
        rows[0], rows[least] = rows[least], rows[0]
        numbers[0], numbers[least] = numbers[least], numbers[0]
        for at in range(1, len(rows)):
            times = numbers[at] // numbers[0]
            rows[at] = _less(rows[at], rows[0], times)
            numbers[at] = numbers[at] - numbers[0] * times
        least = _least(numbers) if any([number != 0 for number in numbers[1:]]) else None
    return rows


def _least(numbers):
    """The place of the number that is nearest to 0, but not 0; None if all are 0."""
    found = None
    for at, number in enumerate(numbers):
        if number != 0 and (found is None or abs(number) < abs(numbers[found])):
            found = at
    return found


def _less(row, other, times):
    """This row less so many times the other one."""
    return [many - times * more for many, more in zip(row, other)]


def _times(row, times):
    return [times * many for many in row]
