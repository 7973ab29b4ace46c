"""The checkers, which solve nothing [17], and what stands in a machine [18]."""

from pointsure.calls import cut_calls
from pointsure.facts import (
    each_name, field_name, goes_fact, holds_fact, kept_name, local_name, reach_fact, sorted_once, thing_at)
from pointsure.outline import Outline
from pointsure.rules import instances_by, lacking
from pointsure.tables import known_of


def is_closed(program, fineness, facts):
    """Whether nothing lacks."""
    return not lacking(program, fineness, facts)


def is_paper(program, fineness, paper, granted):
    """Whether each instance of the paper is one by its uses, which are granted or heads ahead, no head twice."""
    outline = Outline(program)
    known = known_of(granted)
    heads = {}
    for head, number, uses in paper:
        if head in heads or not all([use in known for use in uses]):
            return False
        if (head, number, uses) not in instances_by(outline, fineness, uses, number):
            return False
        heads[head] = True
        known[head] = True
    return True


def standing(machine, fineness):
    """What stands in the machine, as facts, sorted, each once."""
    made = []
    for thing, path in zip(machine.things(), machine.thing_paths()):
        made.append(thing_at(thing[0], cut_calls(path, fineness)))
    return sorted_once(standing_calls(machine, fineness, made) + standing_things(machine, made))


def standing_calls(machine, fineness, made):
    """What the calls that stand are told as; made are the things, as facts tell them."""
    facts = []
    path = ()
    waits = None
    for body, row, pairs in machine.calls():
        calls = cut_calls(path, fineness)
        facts.append(reach_fact(body, calls))
        # Each call but main was called by the row at which the one beneath it waits.
        if waits is not None:
            facts.append(goes_fact(waits, cut_calls(path[:-1], fineness), body, calls))
        for x, value in pairs:
            facts.extend(held_facts(local_name(body, calls, x), value, made))
        waits = row
        path = path + (row,)
    return facts


def standing_things(machine, made):
    """What the things hold, by fields, members and kept names."""
    facts = []
    for number, thing in enumerate(machine.things()):
        row = made[number][0]
        calls = made[number][1]
        if thing[1] == "row":
            for value in thing[2]:
                facts.extend(held_facts(each_name(row, calls), value, made))
        else:
            for part, value in thing[2]:
                name = field_name(row, calls, part) if thing[1] == "record" else kept_name(row, calls, part)
                facts.extend(held_facts(name, value, made))
    return facts


def held_facts(name, value, made):
    """The fact that the name holds the value, if that is a thing, in a list."""
    if value is None or value[0] != "thing":
        return []
    return [holds_fact(name, made[value[1]])]
