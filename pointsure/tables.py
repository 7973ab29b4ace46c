"""Tables that several modules fill in the same way."""


def known_of(ones):
    """A dict of True with each of them once, in the order in which they came."""
    known = {}
    for one in ones:
        known[one] = True
    return known


def add_to(table, key, one):
    """One more in the table's list of this key."""
    if key not in table:
        table[key] = []
    table[key].append(one)
