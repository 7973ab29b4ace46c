"""Facts told finer and coarser [19, 20]."""

from pointsure.calls import cut_calls
from pointsure.facts import goes_fact, holds_fact, reach_fact, sorted_once, thing_at
from pointsure.tables import known_of


def cut_fact(fact, fineness):
    """The fact with each of its calls cut to the fineness."""
    if fact[0] == "reach":
        return reach_fact(fact[1], cut_calls(fact[2], fineness))
    if fact[0] == "goes":
        return goes_fact(fact[1], cut_calls(fact[2], fineness), fact[3], cut_calls(fact[4], fineness))
    thing = fact[2]
    return holds_fact(cut_name(fact[1], fineness), thing_at(thing[0], cut_calls(thing[1], fineness)))


def cut_name(name, fineness):
    """The name with its calls cut: in each form they stand third."""
    return name[:2] + (cut_calls(name[2], fineness),) + name[3:]


def cut_facts(facts, fineness):
    """The facts, cut, sorted, each once."""
    return sorted_once([cut_fact(fact, fineness) for fact in facts])


def leads(facts, others, fineness):
    """Whether each of the facts, cut, is among the others."""
    known = known_of(others)
    return all([cut_fact(fact, fineness) in known for fact in facts])
