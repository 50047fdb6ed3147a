"""Sequences that are sorted as Python sorts, without duplicates."""


# Python's own sorting is not asked: what is sorted here is told in tuples,
# and these may be compared with one another, but not by a key of one kind.
def ascending(rows):
    """The tuple of these, ascending."""
    runs = [[row] for row in rows]
    while len(runs) > 1:
        runs = [_merged(runs[at : at + 2]) for at in range(0, len(runs), 2)]
    return tuple([row for run in runs for row in run])


def rises(rows):
    """Whether each one of these is above the one ahead."""
    return all([one < other for one, other in zip(rows, rows[1:])])


def _merged(runs):
    """One ascending list of one or two."""
    if len(runs) == 1:
        return runs[0]
    one, other = runs
    found = []
    at = 0
    by = 0
    while at < len(one) and by < len(other):
        if one[at] < other[by]:
            found.append(one[at])
            at += 1
        else:
            if one[at] == other[by]:
                at += 1
            found.append(other[by])
            by += 1
    return [*found, *one[at:], *other[by:]]
