"""What each row does, where it can be done [10]."""

from pointsure.facts import own_field
from pointsure.faults import goal_of
from pointsure.rows import BLOCK_WORDS, CALLERS
from pointsure.state import Call


def shown_value(state, value):
    """The text by which the value is shown."""
    if value is None:
        return "none"
    kind = state.kind_of(value)
    if kind is not None:
        return kind
    thing = state.thing_of(value)
    if thing.form == "row":
        return "row"
    return state.outline.made_function(thing.row)


def do_new(state, row, number):
    """A new record, all its fields none."""
    value = state.make_thing(number, "record")
    thing = state.thing_of(value)
    for field in state.outline.fields[row.kind]:
        thing.slots[field] = None
    state.top().give_name(row.x, value)


def do_row_thing(state, row, number):
    """A new row without members."""
    state.top().give_name(row.x, state.make_thing(number, "row"))


def do_func(state, row, number):
    """A new function thing, with the values as they are now."""
    value = state.make_thing(number, "func")
    thing = state.thing_of(value)
    for kept, name in zip(state.outline.kept[row.function], row.handed):
        thing.slots[kept] = state.value_of(name)
    state.top().give_name(row.x, value)


def do_copy(state, row, number):
    """X is what Y is."""
    state.top().give_name(row.x, state.value_of(row.y))


def do_take(state, row, number):
    """X is what the field holds."""
    thing = state.thing_of(state.value_of(row.y))
    state.top().give_name(row.x, thing.slots[row.field])


def do_put(state, row, number):
    """The field holds what X is."""
    thing = state.thing_of(state.value_of(row.y))
    thing.slots[row.field] = state.value_of(row.x)


def do_push(state, row, number):
    """What X is comes as the last member."""
    thing = state.thing_of(state.value_of(row.y))
    thing.members.append(state.value_of(row.x))


def do_pull(state, row, number):
    """The last member is taken away, and X is it; none where there is none."""
    thing = state.thing_of(state.value_of(row.y))
    value = None
    if thing.members:
        value = thing.members.pop()
    state.top().give_name(row.x, value)


def do_tell(state, row, number):
    """What X is is shown."""
    state.shown_texts.append(shown_value(state, state.value_of(row.x)))


def do_nothing(state, row, number):
    """A row that only rests, or only may be refused."""


def do_fresh(state, row, number):
    """X is a mark, and those own fields of it that its kind has are none."""
    state.top().give_name(row.x, ("mark", row.kind))
    for field in state.outline.fields[row.kind]:
        state.top().give_name(own_field(row.x, field), None)


def do_own(state, row, number):
    """X is what the own field holds."""
    state.top().give_name(row.x, state.value_of(own_field(row.y, row.field)))


def do_place(state, row, number):
    """The own field holds what X is."""
    state.top().give_name(own_field(row.y, row.field), state.value_of(row.x))


DEEDS = {
    "new": do_new,
    "row": do_row_thing,
    "func": do_func,
    "copy": do_copy,
    "take": do_take,
    "put": do_put,
    "push": do_push,
    "pull": do_pull,
    "tell": do_tell,
    "rest": do_nothing,
    "check": do_nothing,
    "fresh": do_fresh,
    "own": do_own,
    "place": do_place,
}


def do_row(state, number):
    """The row, the next one of the last call, is done, with the end of all calls that are over by it."""
    row = state.outline.rows[number]
    call = state.top()
    if row.word in CALLERS:
        call_goal(state, row, number)
    elif row.word == "give":
        end_call(state, state.value_of(row.x))
    elif row.word in BLOCK_WORDS and not is_true(state, row):
        call.row = state.flow.otherwise[number]
    else:
        if row.word in DEEDS:
            DEEDS[row.word](state, row, number)
        call.row = state.flow.behind[number]
    end_calls(state)


def is_true(state, row):
    """Whether the row's condition is true; an input may be used by it."""
    if row.condition == "choose":
        return state.next_input() != 0
    one = state.value_of(row.x)
    if row.condition == "some":
        return one is not None
    other = state.value_of(row.y)
    if one is None or other is None:
        return one is None and other is None
    return one == other and one[0] == "thing"


def call_body(state, body, path):
    """A call of the body stands then, all its names none; it is told."""
    call = Call(body, path, state.flow.first[body])
    state.stack.append(call)
    return call


def call_goal(state, row, number):
    """The body that the row calls is called; the call beneath waits at the row."""
    value = state.value_of(row.y)
    body = goal_of(state, row, value)
    handed = [state.value_of(name) for name in row.handed]
    call = call_body(state, body, state.top().path + (number,))
    for name, one in zip(state.outline.params[body], handed):
        call.give_name(name, one)
    if row.word != "do":
        call.give_name("self", value)
        return
    for kept, one in state.thing_of(value).slots.items():
        call.give_name(kept, one)


def end_calls(state):
    """Calls are over, as long as the last one has no further row."""
    while state.stack and state.top().row is None:
        end_call(state, None)


def end_call(state, value):
    """The last call is over and gives the value; the one beneath goes on behind the row at which it waits."""
    state.stack.pop()
    if not state.stack:
        state.ended = ("given", shown_value(state, value))
        return
    call = state.top()
    call.give_name(state.outline.rows[call.row].x, value)
    call.row = state.flow.behind[call.row]
