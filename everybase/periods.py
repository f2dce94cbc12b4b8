"""What repeats."""


def least_period(row):
    """The length of the shortest beginning of a row, a divisor of its length, of which the whole row consists."""
    many = len(row)
    left = many
    factor = 2
    while left > 1:
        if factor * factor > left:
            factor = left
        if left % factor != 0:
            factor = factor + 1
            continue
        left = left // factor
        short = many // factor
        if row[:short] * factor == row[:many]:
            many = short
    return many
