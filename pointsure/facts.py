"""The forms of things, names and facts [12], and how lists of them are told [14].

All forms are tuples. Their first words differ wherever the kinds of the later places differ,
so any two facts, and any two instances, can be compared as they are.
"""


def thing_at(row, calls):
    """The thing that the row makes in a body that was called so."""
    return (row, tuple(calls))


def own_field(name, field):
    """The x of the local that an own field is."""
    return f"{name}.{field}"


def local_name(body, calls, x):
    """A name of a body; x is a name, or an own field."""
    return ("local", body, tuple(calls), x)


def given_name(body, calls):
    """What the body gives."""
    return ("given", body, tuple(calls))


def field_name(row, calls, field):
    """A field of the record that the row makes."""
    return ("field", row, tuple(calls), field)


def each_name(row, calls):
    """All members of the row thing that the row makes."""
    return ("each", row, tuple(calls))


def kept_name(row, calls, kept):
    """A kept name of the function thing that the row makes."""
    return ("kept", row, tuple(calls), kept)


def reach_fact(body, calls):
    """The body may be called so."""
    return ("reach", body, tuple(calls))


def goes_fact(row, calls, goal, goal_calls):
    """The call row, in a body called so, may call the goal, which then has the goal's calls."""
    return ("goes", row, tuple(calls), goal, tuple(goal_calls))


def holds_fact(name, thing):
    """The name may hold the thing."""
    return ("holds", name, thing)


def sorted_once(facts):
    """A new list of the facts, or of instances: sorted, each once."""
    once = []
    # Equal ones lie side by side here; instances hold lists, so no dict could tell them apart.
    for fact in sorted(facts):
        if not once or once[-1] != fact:
            once.append(fact)
    return once
