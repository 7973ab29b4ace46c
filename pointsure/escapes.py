"""What comes out of a body, and what stays within it, by facts of fineness 0 [26, 27]."""

from pointsure.kinds import is_method_body
from pointsure.outline import Outline
from pointsure.rows import MAKERS
from pointsure.tables import add_to, known_of


def out_of(program, facts, body):
    """The least out of the body, rising."""
    ways = places_within(facts)
    out = {}
    left = first_places(Outline(program), facts, body)
    while left:
        place = left.pop()
        if place not in out:
            out[place] = True
            left.extend(ways.get(place, []))
    return sorted(out)


def is_out(program, facts, body, rows):
    """Whether the rows are an out of the body: they have its first places, and with each all that it leads to."""
    known = known_of(rows)
    ways = places_within(facts)
    needed = first_places(Outline(program), facts, body)
    for place in known:
        needed.extend(ways.get(place, []))
    return all([place in known for place in needed])


def stays_by(program, body, rows):
    """The rows that make, stand in the body and are not in this list, rising."""
    outline = Outline(program)
    known = known_of(rows)
    return [number for number in making_rows(outline) if outline.homes[number] == body and number not in known]


def making_rows(outline):
    """The numbers of the rows that make things, rising."""
    return [number for number, row in enumerate(outline.rows) if row.word in MAKERS]


def first_places(outline, facts, body):
    """The places that are out by themselves: of what comes in and is given, and those in other bodies."""
    places = [number for number in making_rows(outline) if outline.homes[number] != body]
    names = outline.params[body] + outline.kept[body]
    if is_method_body(body):
        names.append("self")
    for fact in facts:
        if fact[0] == "holds" and is_open_name(fact[1], body, names):
            places.append(fact[2][0])
    return places


def is_open_name(name, body, names):
    """Whether the name is what the body gives, or one of these names of it."""
    if name[0] == "given":
        return name[1] == body
    return name[0] == "local" and name[1] == body and name[3] in names


def places_within(facts):
    """By places: the places of all that their fields, each and kept names hold."""
    ways = {}
    for fact in facts:
        if fact[0] == "holds" and fact[1][0] in ("field", "each", "kept"):
            add_to(ways, fact[1][1], fact[2][0])
    return ways
