"""Where a row can't be done [11]."""

from pointsure.kinds import method_body
from pointsure.rows import CALLERS

MOST_CALLS = 30

# What Y must be, by the rows that can't be done with other values.
SORTS = {
    "take": "record",
    "put": "record",
    "check": "record",
    "ask": "record",
    "straight": "record",
    "push": "row",
    "pull": "row",
    "do": "func",
    "own": "mark",
    "place": "mark",
}


def end_at(state, number):
    """The end of the run, if this row can't be done as the next one, else None."""
    row = state.outline.rows[number]
    if row.word not in SORTS:
        return None
    value = state.value_of(row.y)
    word = fault_word(state, row, value)
    if word is not None:
        return ("fault", number, word)
    if row.word in CALLERS and len(state.stack) >= MOST_CALLS:
        return ("deep", number)
    return None


def fault_word(state, row, value):
    """The first word of those that tell why the row can't be done with the value of Y, or None."""
    if value is None:
        return "none"
    if sort_of(state, value) != SORTS[row.word]:
        return "sort"
    if row.field is not None and row.field not in state.outline.fields[state.kind_of(value)]:
        return "field"
    if row.word in CALLERS:
        goal = goal_of(state, row, value)
        if goal is None:
            return "method"
        if not state.outline.takes(goal, row):
            return "count"
    return None


def sort_of(state, value):
    """What sort of thing the value is, or that it is a mark."""
    if value[0] == "mark":
        return "mark"
    return state.thing_of(value).form


def goal_of(state, row, value):
    """The body that a call row calls with the value as Y, or None."""
    if row.word == "do":
        return state.outline.made_function(state.thing_of(value).row)
    if row.word == "ask":
        return state.outline.found(state.kind_of(value), row.method)
    return method_body(row.kind, row.method)
