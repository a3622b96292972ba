"""Equations with as many unknowns, solved in integers."""


def solved(equations, sides):
    """Solve equations: a list of their coefficients, and a list of their right sides, all integers.

    Each equation has a list of right sides, so that several solutions are found at once. Return
    their common low and, for each unknown, the list of the tops of its solutions; the tops and the
    low may all have the wrong sign. Return None if there is not exactly one solution.
    """
    many = len(equations)
    rows = [coefficients + side for coefficients, side in zip(equations, sides)]
    before = 1
    for place in range(many):
        lead = next_lead(rows, place)
        if lead is None:
            return None
        rows[place], rows[lead] = rows[lead], rows[place]
        head = rows[place]
        for k in range(place + 1, many):
            rows[k] = reduced(rows[k], head, place, before)
        before = head[place]
    return before, inserted(rows, before)


def next_lead(rows, place):
    """Return the first row from a place on whose item at this place is not 0, or None."""
    for k in range(place, len(rows)):
        if rows[k][place] != 0:
            return k
    return None


def reduced(row, head, place, before):
    """Return a row without the unknown at a place, where before is the lead of the step before.

    The division leaves no remainder, since all items are determinants of parts of the equations.
    """
    lead = head[place]
    factor = row[place]
    ahead = [(lead * row[k] - factor * head[k]) // before for k in range(place + 1, len(row))]
    return [0] * (place + 1) + ahead


def inserted(rows, low):
    """Return the tops of the solutions of rows in which each one lacks the unknowns before its own."""
    many = len(rows)
    found = []
    for place in range(many - 1, -1, -1):
        row = rows[place]
        tops = [low * side for side in row[many:]]
        # found begins with the unknown after this one.
        for factor, known in zip(row[place + 1:many], found):
            tops = [top - factor * part for top, part in zip(tops, known)]
        found = [[top // row[place] for top in tops]] + found
    return found
