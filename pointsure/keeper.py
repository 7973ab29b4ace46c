"""A program and its told facts, kept while rows are put otherwise [24]."""

from pointsure.edits import row_otherwise
from pointsure.solver import Told
from pointsure.tables import known_of


class Keeper:
    """A program as it stands, with what is told of it."""

    def __init__(self, program, fineness=0):
        self.program = program
        self.fineness = fineness
        self.solved = Told(program, fineness)

    def stands(self):
        """The program as it stands."""
        return self.program

    def facts(self):
        """The facts told of it, sorted."""
        return self.solved.facts()

    def put_otherwise(self, number, words):
        """The row is put otherwise; the facts that stayed, that went and that came. Refused, nothing changes."""
        changed = row_otherwise(self.program, number, words)
        solved = Told(changed, self.fineness)
        # With rest there no rule has more to give than with the row, so this is never refused.
        rested = Told(row_otherwise(self.program, number, ["rest"]), self.fineness)
        before = self.facts()
        self.program = changed
        self.solved = solved
        now = self.facts()
        return (rested.facts(), those_not_in(before, now), those_not_in(now, before))


def those_not_in(facts, others):
    """Those of the facts that are not among the others, as they stand."""
    known = known_of(others)
    return [fact for fact in facts if fact not in known]
