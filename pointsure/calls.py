"""Calls as facts tell them [12, 13], and to which bodies a row may go by the text [21]."""

from pointsure.kinds import is_method_body, method_body


def cut_calls(calls, fineness):
    """The last rows of the calls, as many as the fineness, or all where there are fewer."""
    # calls[-fineness:] would leave all of them where the fineness is 0.
    return tuple(calls[max(0, len(calls) - fineness):])


def calls_behind(calls, row, fineness):
    """The calls of a body that is called by the row, in a body that was called so."""
    return cut_calls(tuple(calls) + (row,), fineness)


def may_go(outline, number, body):
    """Whether the row, by the text, may go to the body."""
    row = outline.rows[number]
    if not outline.takes(body, row):
        return False
    if row.word == "do":
        return body != "main" and not is_method_body(body)
    if row.word == "ask":
        return is_method_body(body) and outline.heads[body][2] == row.method
    if row.word == "straight":
        return body == method_body(row.kind, row.method)
    return False


def goals_of(outline, number):
    """The bodies to which the row may go by the text, as they stand."""
    return [body for body in outline.heads if may_go(outline, number, body)]


def callers_of(outline, body):
    """The numbers of the rows that may go to the body by the text, rising."""
    return [number for number in range(len(outline.rows)) if may_go(outline, number, body)]
