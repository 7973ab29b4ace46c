"""Names asked for alone: wants, what they hang on, and the facts of their parts [21, 22]."""

from pointsure.calls import callers_of, goals_of
from pointsure.facts import own_field, sorted_once
from pointsure.kinds import is_method_body
from pointsure.outline import Outline
from pointsure.rows import CALLERS, given_name_of
from pointsure.rules import first_instance
from pointsure.solver import Growth
from pointsure.tables import known_of


def want_of(fact):
    """What the fact speaks of, without calls, things and goals."""
    if fact[0] == "reach" or fact[0] == "goes":
        return (fact[0], fact[1])
    name = fact[1]
    if name[0] == "given":
        return ("given", name[1])
    if name[0] == "field":
        return ("field", name[3])
    if name[0] == "each":
        return ("each",)
    return (name[0], name[1], name[3])


def hangs_on(program, want):
    """The wants on which the want hangs, sorted, each once."""
    return sorted_once(wants_under(Outline(program), want))


def part_of(program, want):
    """The least part that has the want, sorted."""
    return sorted(part_by(Outline(program), want))


def is_part(program, wants):
    """Whether each of the wants has all that it hangs on among them."""
    outline = Outline(program)
    known = known_of(wants)
    for want in known:
        if not all([one in known for one in wants_under(outline, want)]):
            return False
    return True


def asked(program, fineness, want):
    """The facts asked by the want, sorted; TooGreat by their own count."""
    outline = Outline(program)
    part = part_by(outline, want)
    growth = Growth(outline, fineness)
    come = [first_instance()]
    while come is not None:
        for instance in come:
            if want_of(instance[0]) in part:
                growth.note(instance[0], instance)
        come = growth.next_instances()
    return sorted(growth.queue)


def part_by(outline, want):
    """The least part that has the want, as a dict of True."""
    part = {want: True}
    left = [want]
    while left:
        for one in wants_under(outline, left.pop()):
            if one not in part:
                part[one] = True
                left.append(one)
    return part


def wants_under(outline, want):
    """The wants on which the want hangs, some perhaps twice."""
    if want[0] == "reach":
        return under_reach(outline, want[1])
    if want[0] == "goes":
        return under_goes(outline, want[1])
    if want[0] == "local":
        return under_local(outline, want[1], want[2])
    if want[0] == "given":
        return under_given(outline, want[1])
    if want[0] == "kept":
        return under_kept(outline, want[1], want[2])
    if want[0] == "field":
        return under_stored(outline, "put", want[1])
    return under_stored(outline, "push", None)


def local_at(outline, number, x):
    """The want of x in the body of the row."""
    return ("local", outline.homes[number], x)


def reach_at(outline, number):
    """The want that the body of the row is reached."""
    return ("reach", outline.homes[number])


def under_reach(outline, body):
    """Of a body's reach: each row that may go there."""
    wants = []
    for number in callers_of(outline, body):
        wants.append(("goes", number))
        wants.append(reach_at(outline, number))
    return wants


def under_goes(outline, number):
    """Of a row's goes: its reach and its Y."""
    row = outline.rows[number]
    wants = [reach_at(outline, number)]
    if row.word in CALLERS:
        wants.append(local_at(outline, number, row.y))
    return wants


def under_local(outline, body, x):
    """Of a local: the rows of its body that give it a value, and those that hand it in."""
    wants = [("reach", body)]
    for number in outline.own_rows[body]:
        if given_name_of(outline.rows[number]) == x:
            wants.extend(under_giver(outline, number))
        wants.extend(under_place(outline, number, x))
    for number in callers_of(outline, body):
        wants.extend(under_caller(outline, number, body, x))
    if x in outline.kept[body]:
        for number in range(len(outline.rows)):
            if outline.made_function(number) == body:
                wants.append(("kept", number, x))
    return wants


def under_giver(outline, number):
    """On what a row's X hangs by that row."""
    row = outline.rows[number]
    if row.word in CALLERS:
        return [("goes", number)] + [("given", body) for body in goals_of(outline, number)]
    if row.word == "own":
        return [local_at(outline, number, own_field(row.y, row.field))]
    wants = []
    if row.word in ("copy", "take", "pull"):
        wants.append(local_at(outline, number, row.y))
    if row.word == "take":
        wants.append(("field", row.field))
    if row.word == "pull":
        wants.append(("each",))
    return wants


def under_place(outline, number, x):
    """On what x hangs by the row, if that places it as an own field."""
    row = outline.rows[number]
    if row.word == "place" and own_field(row.y, row.field) == x:
        return [local_at(outline, number, row.x)]
    return []


def under_caller(outline, number, body, x):
    """On what x of the body hangs by a row that may go there."""
    row = outline.rows[number]
    wants = []
    if x in outline.params[body]:
        handed = row.handed[outline.params[body].index(x)]
        wants.extend([("goes", number), reach_at(outline, number), local_at(outline, number, handed)])
    # What Y is comes in as self, or brings the kept names.
    if x in outline.kept[body] or (x == "self" and is_method_body(body)):
        wants.extend([reach_at(outline, number), local_at(outline, number, row.y)])
    return wants


def under_given(outline, body):
    """Of what a body gives: its reach and what its rows give."""
    wants = [("reach", body)]
    for number in outline.own_rows[body]:
        row = outline.rows[number]
        if row.word == "give":
            wants.append(local_at(outline, number, row.x))
    return wants


def under_stored(outline, word, field):
    """Of fields and members: each row of this word, and of this field, that stores something."""
    wants = []
    for number, row in enumerate(outline.rows):
        if row.word == word and row.field == field:
            wants.append(reach_at(outline, number))
            wants.append(local_at(outline, number, row.y))
            wants.append(local_at(outline, number, row.x))
    return wants


def under_kept(outline, number, kept):
    """Of a kept name: the local that stands for it where the function thing is made."""
    wants = [reach_at(outline, number)]
    function = outline.made_function(number)
    if function is not None and kept in outline.kept[function]:
        handed = outline.rows[number].handed[outline.kept[function].index(kept)]
        wants.append(local_at(outline, number, handed))
    return wants
