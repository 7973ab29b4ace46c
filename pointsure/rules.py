"""The rules by which facts give facts: their instances, and what lacks [13, 14]."""

from pointsure.calls import calls_behind
from pointsure.facts import (
    each_name, field_name, given_name, goes_fact, holds_fact, kept_name, local_name, own_field, reach_fact,
    sorted_once, thing_at)
from pointsure.kinds import method_body
from pointsure.outline import Outline
from pointsure.rows import CALLERS
from pointsure.tables import add_to, known_of

# Rows that do nothing by themselves, but by each thing that Y holds.
BY_THINGS = ("take", "put", "push", "pull", "do", "ask", "straight")


class Weave:
    """Facts taken one behind the other; of each one, the instances that need it and facts taken ahead of it alone.

    A reached row ties links: all that the link's source holds, its target holds, too. Some links are tied
    only by a thing that Y holds, or by a goes; so each instance is come upon once, with the last of its uses.
    """

    def __init__(self, outline, fineness, only=None):
        self.outline = outline
        self.fineness = fineness
        # The number of the one row that is looked at, or None for all.
        self.only = only
        self.known = {}
        # By names: the things that they hold; the links from them; the reached rows of which they are Y.
        self.held = {}
        self.links = {}
        self.watches = {}
        # By row and calls: the goes facts.
        self.went = {}
        self.come = []

    def take_fact(self, fact):
        """The instances that come with the fact; none where it was taken ahead."""
        self.come = []
        if fact not in self.known:
            self.known[fact] = True
            if fact[0] == "reach":
                self.take_reach(fact)
            elif fact[0] == "goes":
                self.take_goes(fact)
            else:
                self.take_holds(fact)
        return self.come

    def take_reach(self, reach):
        """All rows of the reached body are tied."""
        for number in self.outline.own_rows.get(reach[1], []):
            if self.only is None or self.only == number:
                tie_row(self, Place(self, number, reach))

    def take_goes(self, goes):
        """What the row hands on and is given is tied, if it stands reached."""
        number = goes[1]
        calls = goes[2]
        add_to(self.went, (number, calls), goes)
        reach = reach_fact(self.outline.homes[number], calls)
        if reach in self.known and (self.only is None or self.only == number):
            tie_goes(self, Place(self, number, reach), goes)

    def take_holds(self, fact):
        """Links hand the thing on; rows that watch the name do by it."""
        name = fact[1]
        thing = fact[2]
        add_to(self.held, name, thing)
        # Links that the watches tie come upon this thing by themselves, so they are not walked here.
        for target, number, uses in self.links.get(name, []):
            self.come.append((holds_fact(target, thing), number, uses + [fact]))
        for place in self.watches.get(name, []):
            tie_thing(self, place, fact)

    def add_link(self, source, target, number, uses):
        """All that the source holds, now and later, the target holds."""
        add_to(self.links, source, (target, number, uses))
        for thing in self.held.get(source, []):
            self.come.append((holds_fact(target, thing), number, uses + [holds_fact(source, thing)]))

    def add_watch(self, name, place):
        """The row at this place does by each thing that the name holds, now and later."""
        add_to(self.watches, name, place)
        for thing in self.held.get(name, []):
            tie_thing(self, place, holds_fact(name, thing))


class Place:
    """A row in a body that is reached with some calls."""

    def __init__(self, weave, number, reach):
        self.number = number
        self.row = weave.outline.rows[number]
        self.reach = reach
        self.body = reach[1]
        self.path = reach[2]
        self.path_behind = calls_behind(self.path, number, weave.fineness)

    def local(self, x):
        """The name that is x in this body, called so."""
        return local_name(self.body, self.path, x)

    def goal_local(self, goal, x):
        """The name that is x in the body that is called from here."""
        return local_name(goal, self.path_behind, x)


def tie_row(weave, place):
    """What a row gives by its reach alone, and the links and watches that it ties."""
    row = place.row
    reach = place.reach
    number = place.number
    if row.word in ("new", "row", "func"):
        weave.come.append((holds_fact(place.local(row.x), thing_at(number, place.path)), number, [reach]))
    if row.word == "func":
        for kept, name in zip(weave.outline.kept[row.function], row.handed):
            weave.add_link(place.local(name), kept_name(number, place.path, kept), number, [reach])
    elif row.word == "copy":
        weave.add_link(place.local(row.y), place.local(row.x), number, [reach])
    elif row.word == "give":
        weave.add_link(place.local(row.x), given_name(place.body, place.path), number, [reach])
    elif row.word == "own":
        weave.add_link(place.local(own_field(row.y, row.field)), place.local(row.x), number, [reach])
    elif row.word == "place":
        weave.add_link(place.local(row.x), place.local(own_field(row.y, row.field)), number, [reach])
    elif row.word in BY_THINGS:
        weave.add_watch(place.local(row.y), place)
    if row.word in CALLERS:
        for goes in weave.went.get((number, place.path), []):
            tie_goes(weave, place, goes)


def tie_goes(weave, place, goes):
    """What a call row gives by a goes: the goal is reached, what is handed on, what is given."""
    goal = goes[3]
    if goes[4] != place.path_behind or place.row.word not in CALLERS or not weave.outline.takes(goal, place.row):
        return
    uses = [place.reach, goes]
    weave.come.append((reach_fact(goal, place.path_behind), place.number, list(uses)))
    for param, name in zip(weave.outline.params[goal], place.row.handed):
        weave.add_link(place.local(name), place.goal_local(goal, param), place.number, uses)
    weave.add_link(given_name(goal, place.path_behind), place.local(place.row.x), place.number, uses)


def tie_thing(weave, place, fact):
    """What a row gives by a thing that Y holds, which is the fact."""
    if place.row.word in ("take", "put"):
        tie_field(weave, place, fact)
    elif place.row.word in ("push", "pull"):
        tie_each(weave, place, fact)
    else:
        tie_goal(weave, place, fact)


def tie_field(weave, place, fact):
    """`take` and `put`, by a thing that has the field."""
    row = place.row
    thing = fact[2]
    if not weave.outline.has_field(thing[0], row.field):
        return
    field = field_name(thing[0], thing[1], row.field)
    if row.word == "take":
        weave.add_link(field, place.local(row.x), place.number, [place.reach, fact])
    else:
        weave.add_link(place.local(row.x), field, place.number, [place.reach, fact])


def tie_each(weave, place, fact):
    """`push` and `pull`, by a thing that is a row."""
    row = place.row
    thing = fact[2]
    if weave.outline.made_by(thing[0], "row") is None:
        return
    each = each_name(thing[0], thing[1])
    if row.word == "pull":
        weave.add_link(each, place.local(row.x), place.number, [place.reach, fact])
    else:
        weave.add_link(place.local(row.x), each, place.number, [place.reach, fact])


def tie_goal(weave, place, fact):
    """`do`, `ask` and `straight`, by a thing that finds a body with as many parameters."""
    thing = fact[2]
    goal = goal_by(weave.outline, place.row, thing[0])
    if goal is None or not weave.outline.takes(goal, place.row):
        return
    uses = [place.reach, fact]
    goes = goes_fact(place.number, place.path, goal, place.path_behind)
    weave.come.append((goes, place.number, list(uses)))
    if place.row.word != "do":
        weave.come.append((holds_fact(place.goal_local(goal, "self"), thing), place.number, list(uses)))
        return
    for kept in weave.outline.kept[goal]:
        source = kept_name(thing[0], thing[1], kept)
        weave.add_link(source, place.goal_local(goal, kept), place.number, uses)


def goal_by(outline, row, maker):
    """The body that the row calls by a thing that was made at the row maker, or None."""
    if row.word == "do":
        return outline.made_function(maker)
    kind = outline.made_kind(maker)
    if kind is None:
        return None
    if row.word == "ask":
        return outline.found(kind, row.method)
    return method_body(row.kind, row.method)


def first_instance():
    """The instance that needs nothing."""
    return (reach_fact("main", ()), -1, [])


def instances_by(outline, fineness, facts, only=None):
    """The instances of the facts, each once; of all rows, or of one row alone; not sorted."""
    weave = Weave(outline, fineness, only)
    told = []
    if only is None or only == -1:
        told.append(first_instance())
    for fact in facts:
        told.extend(weave.take_fact(fact))
    return told


def instances(program, fineness, facts):
    """The instances of the facts, each once, sorted."""
    return sorted_once(instances_by(Outline(program), fineness, facts))


def lacking(program, fineness, facts):
    """The heads of the facts' instances that are not among the facts, each once, sorted."""
    known = known_of(facts)
    heads = [instance[0] for instance in instances_by(Outline(program), fineness, facts)]
    return sorted_once([head for head in heads if head not in known])
