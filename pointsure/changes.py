"""Which rows may be changed by facts of fineness 0, and what they become [28]."""

from pointsure.facts import local_name
from pointsure.kinds import is_method_body, method_body
from pointsure.outline import Outline
from pointsure.tables import add_to


class Grounds:
    """A program and facts of fineness 0, looked up once for all changes that are judged by them."""

    def __init__(self, program, facts):
        self.outline = Outline(program)
        self.reached = {}
        self.held = {}
        for fact in facts:
            if fact[0] == "reach":
                self.reached[fact[1]] = True
            elif fact[0] == "holds":
                add_to(self.held, fact[1], fact[2])
        # The pairs of a field's name and a thing of which a reached row may take it.
        self.taken = {}
        for number, row in enumerate(self.outline.rows):
            if row.word == "take" and self.is_reached(number):
                for thing in self.things_at(number, row.y):
                    self.taken[(row.field, thing)] = True

    def is_reached(self, number):
        """Whether a row has this number, and it stands reached."""
        return 0 <= number < len(self.outline.rows) and self.outline.homes[number] in self.reached

    def things_at(self, number, x):
        """The things that x holds in the body of the row."""
        return self.held.get(local_name(self.outline.homes[number], (), x), [])

    def kinds_at(self, number, x):
        """The kinds of the records that x holds there."""
        kinds = [self.outline.made_kind(thing[0]) for thing in self.things_at(number, x)]
        return [kind for kind in kinds if kind is not None]


def is_allowed(program, facts, change):
    """Whether the change is one, and allowed by the facts."""
    return allows(Grounds(program, facts), change)


def allows(grounds, change):
    """The same, by what was looked up."""
    number = change[0]
    word = change[1]
    if not grounds.is_reached(number):
        return False
    if word == "straight":
        return allows_straight(grounds, number, change[2])
    if change[2] != "":
        return False
    if word == "apart":
        return allows_apart(grounds.outline, number)
    return word == "unread" and allows_unread(grounds, number)


def allows_straight(grounds, number, kind):
    """Whether all records that Y may be find their method in this kind's own one."""
    row = grounds.outline.rows[number]
    if row.word != "ask":
        return False
    goal = method_body(kind, row.method)
    if goal not in grounds.outline.heads:
        return False
    return all([grounds.outline.found(one, row.method) == goal for one in grounds.kinds_at(number, row.y)])


def allows_apart(outline, number):
    """Whether the record that the row makes is never known but by its X, in one call of its body."""
    row = outline.rows[number]
    body = outline.homes[number]
    if row.word != "new" or row.x in outline.params[body] or row.x in outline.kept[body]:
        return False
    if row.x == "self" and is_method_body(body):
        return False
    others = [outline.rows[other] for other in outline.own_rows[body] if other != number]
    return all([leaves_apart(other, row.x) for other in others])


def leaves_apart(row, x):
    """Whether the row does not name x, or only looks at it and its fields."""
    if x not in row.names:
        return True
    if row.word in ("take", "put"):
        return row.x != x
    return row.word == "tell" or row.condition == "some"


def allows_unread(grounds, number):
    """Whether no reached row takes this field of a thing that Y may be."""
    row = grounds.outline.rows[number]
    if row.word != "put":
        return False
    return not any([(row.field, thing) in grounds.taken for thing in grounds.things_at(number, row.y)])


def changed_rows(outline, change):
    """By their numbers, the words that rows become by an allowed change."""
    number = change[0]
    row = outline.rows[number]
    if change[1] == "straight":
        return {number: ["straight", row.x, row.y, change[2], row.method] + row.handed}
    if change[1] == "unread":
        return {number: ["check", row.y, row.field]}
    changed = {number: ["fresh", row.x, row.kind]}
    for other in outline.own_rows[outline.homes[number]]:
        one = outline.rows[other]
        if one.word == "take" and one.y == row.x:
            changed[other] = ["own", one.x, one.y, one.field]
        elif one.word == "put" and one.y == row.x:
            changed[other] = ["place", one.y, one.field, one.x]
    return changed
