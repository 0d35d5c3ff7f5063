"""The search by presses that states and effects share."""


def shortest_rows(panel, first, step):
    """Return a dict of all that presses make of first, each with its shortest row.

    step(panel, thing, button) returns what one more press makes of a thing. Of
    several shortest rows the dict has the smallest one in the order of tuples.
    """
    rows = {first: ()}
    level = [first]
    while level:
        longer = []
        # The level is in the order of its rows, and so is what is found from
        # it: the first row that leads to a thing is the smallest one.
        for thing in level:
            for button in range(len(panel)):
                after = step(panel, thing, button)
                if after not in rows:
                    rows[after] = (*rows[thing], button)
                    longer.append(after)
        level = longer
    return rows
