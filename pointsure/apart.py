"""Names that are never alike [25]."""

from pointsure.tables import known_of


def never_alike(facts, one, other):
    """Whether the two names hold no thing in common."""
    held = known_of(things_of(facts, one))
    return not any([thing in held for thing in things_of(facts, other)])


def things_of(facts, name):
    """The things that the name holds by the facts, as they stand."""
    return [fact[2] for fact in facts if fact[0] == "holds" and fact[1] == name]
