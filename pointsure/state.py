"""What a machine holds: calls, things, inputs [9]."""

from pointsure.flow import Flow
from pointsure.outline import Outline


class Call:
    """A call that stands. The names that are none are not in it; own fields are in it as `x.f`."""

    def __init__(self, body, path, row):
        self.body = body
        # The rows at which the calls beneath it wait.
        self.path = path
        # The next row; of a call that waits, the row at which it waits.
        self.row = row
        self.named = {}

    def give_name(self, name, value):
        """The name is the value from now on."""
        if value is None:
            self.named.pop(name, None)
        else:
            self.named[name] = value


class Thing:
    """A record, a row or a function thing. What it holds is in slots, by fields or kept names, or in members."""

    def __init__(self, row, path, form):
        self.row = row
        # The path of the call that made it.
        self.path = path
        self.form = form
        self.slots = {}
        self.members = []


class State:
    """A machine's whole state, with the program as the machine reads it."""

    def __init__(self, program, inputs, fuel):
        self.outline = Outline(program)
        self.flow = Flow(program)
        self.inputs = list(inputs)
        self.used = 0
        self.fuel = fuel
        self.stack = []
        self.made = []
        self.shown_texts = []
        self.ended = None

    def top(self):
        """The call that was made last."""
        return self.stack[-1]

    def value_of(self, name):
        """What the name is in the call that was made last."""
        return self.stack[-1].named.get(name)

    def thing_of(self, value):
        """The thing that the value is, or None."""
        if value is None or value[0] != "thing":
            return None
        return self.made[value[1]]

    def kind_of(self, value):
        """The kind of a record or a mark, else None."""
        if value is None:
            return None
        if value[0] == "mark":
            return value[1]
        return self.outline.made_kind(self.made[value[1]].row)

    def make_thing(self, row, form):
        """The value that is a new thing, made by the row; what it holds comes behind."""
        self.made.append(Thing(row, self.top().path, form))
        return ("thing", len(self.made) - 1)

    def next_input(self):
        """The next input, which is used then; 0 where none is left."""
        if self.used >= len(self.inputs):
            return 0
        self.used += 1
        return self.inputs[self.used - 1]
