"""Rows with those in their blocks: their numbers, their names, and other rows in their places."""

from everybase.rows import If, Not, Put, Times


def inner(row):
    """The rows directly within a row, in the order of their lines; none if it is no block."""
    if isinstance(row, If):
        return row.rows + row.others
    if isinstance(row, Times):
        return row.rows
    return ()


def flat(rows):
    """The list of all rows, those in blocks too: each row stands at its number."""
    found = []
    for row in rows:
        found.append(row)
        found.extend(flat(inner(row)))
    return found


def changed(rows, at, put):
    """The tuple of the rows, with those of the tuple `put` in the place of the one with a number."""
    found = []
    for row in rows:
        many = len(flat([row]))
        if at == 0:
            found.extend(put)
        elif 0 < at < many:
            found.append(_changed_within(row, at - 1, put))
        else:
            found.append(row)
        at = at - many
    return tuple(found)


def names_in(rows):
    """The ascending tuple of the names in rows, in tests too."""
    found = {}
    for row in flat(rows):
        for name in _named(row):
            found[name] = True
    return tuple(sorted([str(name) for name in found]))


def bare(test):
    """The test within all `Not`, and whether the whole one holds where that one does."""
    alike = True
    while isinstance(test, Not):
        test = test.test
        alike = not alike
    return test, alike


def _changed_within(block, at, put):
    """The block, the rows directly within it changed as `changed` does."""
    if isinstance(block, Times):
        return Times(block.count, changed(block.rows, at, put))
    others_at = at - len(flat(block.rows))
    return If(block.test, changed(block.rows, at, put), changed(block.others, others_at, put))


def _named(row):
    """The names in a row, without those of the rows within it."""
    if isinstance(row, Put):
        return [row.name] + [one for one in row.given if isinstance(one, str)]
    if isinstance(row, If):
        return list(bare(row.test)[0].names)
    return []
