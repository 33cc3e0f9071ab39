"""Columns that are given to rows such that the powers there have the greatest sum."""


def _gains(powers, given, new):
    """For each column that row `new` can lead to, the greatest gain, and the row through which it gets there.

    The rows ahead of it have their columns in `given`; where a row takes
    another column, its own one is free for the row before.
    """
    owner = {j: i for i, j in enumerate(given)}
    gain = {j: power for j, power in enumerate(powers[new]) if power is not None}
    through = {j: new for j in gain}
    queue = list(gain)
    while queue:
        j = queue.pop(0)
        if j not in owner:
            continue
        row = powers[owner[j]]
        for other, power in enumerate(row):
            if power is None:
                continue
            more = gain[j] - row[j] + power
            if other not in gain or gain[other] < more:
                gain[other] = more
                through[other] = owner[j]
                queue.append(other)
    return gain, through


def given_columns(powers):
    """A column for each row, all different, at places with the greatest sum of powers; None if there are none."""
    given = []
    for new in range(len(powers)):
        gain, through = _gains(powers, given, new)
        free = [j for j in sorted(gain) if j not in given]
        if free == []:
            return None
        best = max([gain[j] for j in free])
        j = [other for other in free if gain[other] == best][0]
        given.append(j)
        # Each row takes the column that it led to; its own one goes to the row before.
        while through[j] != new:
            i = through[j]
            given[i], j = j, given[i]
        given[new] = j
    return given
