"""The machine, which runs a program step by step [9, 10, 11]."""

from pointsure.deeds import call_body, do_row, end_calls
from pointsure.faults import end_at
from pointsure.state import State


class Machine:
    """A run of a program with inputs and fuel, at the step where it is."""

    def __init__(self, program, inputs, fuel):
        self.state = State(program, inputs, fuel)
        call_body(self.state, "main", ())
        # A main without rows is over ahead of the first step.
        end_calls(self.state)

    def step(self):
        """One row is done, or the run ends; False, if it was at its end already."""
        state = self.state
        if state.ended is not None:
            return False
        if state.fuel <= 0:
            state.ended = ("dry",)
            return True
        state.fuel -= 1
        number = state.top().row
        state.ended = end_at(state, number)
        if state.ended is None:
            do_row(state, number)
        return True

    def told(self):
        """The texts that were shown so far."""
        return list(self.state.shown_texts)

    def end(self):
        """The run's end, or None."""
        return self.state.ended

    def calls(self):
        """The calls that stand, main's first."""
        told = []
        waits = [call.row for call in self.state.stack[:-1]] + [None]
        for call, row in zip(self.state.stack, waits):
            told.append((call.body, row, sorted(call.named.items())))
        return told

    def things(self):
        """The things, by their numbers."""
        told = []
        for thing in self.state.made:
            held = list(thing.members)
            if thing.form != "row":
                held = sorted(thing.slots.items())
            told.append((thing.row, thing.form, held))
        return told

    def thing_paths(self):
        """Of each thing, by its number, the rows at which the calls beneath the one that made it waited then."""
        return [thing.path for thing in self.state.made]


def run_program(program, inputs, fuel):
    """What is told, and the end, of a run to its end."""
    machine = Machine(program, inputs, fuel)
    while machine.step():
        pass
    return (machine.told(), machine.end())
