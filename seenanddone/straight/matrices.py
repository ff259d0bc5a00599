"""Ranks and determinants of rows of integers."""


def rank_and_determinant(rows):
    """The pair of the rank of some rows and of their determinant, which tells nothing unless they are a square."""
    left = [list(row) for row in rows]
    rank = 0
    sign = 1
    before = 1
    for column in range(len(rows[0])):
        pivots = [index for index in range(rank, len(left)) if left[index][column] != 0]
        if pivots:
            if pivots[0] > rank:
                left[rank], left[pivots[0]] = left[pivots[0]], left[rank]
                sign = -sign
            left = _without_column(left, rank, column, before)
            before = left[rank][column]
            rank += 1
    return (rank, sign * before if rank == len(left) else 0)


def _without_column(rows, rank, column, before):
    """The rows, those behind the pivot with 0 in its column; all numbers stay determinants of parts of the rows."""
    top = rows[rank]
    pivot = top[column]
    return rows[:rank + 1] + [
        [(pivot * part - row[column] * over) // before for part, over in zip(row, top)]
        for row in rows[rank + 1:]
    ]
