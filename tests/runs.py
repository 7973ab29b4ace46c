"""What a run reaches, and which call made what, looked at from without."""

from pointsure.machine import Machine


def reached_things(machine):
    """The numbers of the things that can be reached, by point 27."""
    left = [value[1] for call in machine.calls() for name, value in call[2] if value[0] == "thing"]
    things = machine.things()
    reached = set()
    while left:
        number = left.pop()
        if number in reached:
            continue
        reached.add(number)
        row, sort, what = things[number]
        values = what if sort == "row" else [value for name, value in what]
        left += [value[1] for value in values if value is not None and value[0] == "thing"]
    return reached


class Watched:
    """A machine of which it is known which call made each thing, and which calls are over."""

    def __init__(self, program, inputs, fuel):
        self.program = program
        self.machine = Machine(program, inputs, fuel)
        self.stack = [0] if self.machine.calls() else []
        self.many_calls = 1
        self.makers = []

    def step(self):
        calls = self.machine.calls()
        number = self.machine.state.top().row if calls and self.machine.end() is None else None
        stepped = self.machine.step()
        things = self.machine.things()
        while len(self.makers) < len(things):
            self.makers.append((calls[-1][0], self.stack[-1]))
        ended = self.machine.end() is not None and self.machine.end()[0] != "given"
        if number is not None and not ended and self.program.row_words(number)[0] in ("do", "ask", "straight"):
            self.stack.append(self.many_calls)
            self.many_calls += 1
        self.stack = self.stack[:len(self.machine.calls())]
        return stepped

    def things_of_calls_over(self):
        """Of each thing whose call is over: its number, its row, the call's body."""
        rows = [thing[0] for thing in self.machine.things()]
        return [(number, rows[number], body) for number, (body, call) in enumerate(self.makers) if call not in self.stack]


def seen_at_each_step(program, inputs, fuel):
    """Of each step of a run: the calls that stand and where they wait, what is told, the end."""
    machine = Machine(program, inputs, fuel)
    seen = []
    while True:
        seen.append(([call[:2] for call in machine.calls()], machine.told(), machine.end()))
        if not machine.step():
            return seen
