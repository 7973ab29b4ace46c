"""The least closed facts, each with a paper [15, 16]."""

from pointsure.errors import NoFact, TooGreat
from pointsure.outline import Outline
from pointsure.rules import Weave, first_instance

MOST_REACHED = 64
MOST_FACTS = 6000


class Growth:
    """Facts that grow by instances; each has a number, by which it came, and its reason."""

    def __init__(self, outline, fineness):
        self.weave = Weave(outline, fineness)
        self.queue = []
        self.numbers = {}
        # The instance by which the fact came first, or None where it was handed in.
        self.reasons = []
        self.looked_at = 0
        self.reached = 0

    def note(self, fact, reason):
        """The fact is one of them then; TooGreat, where they are too many with it."""
        if fact in self.numbers:
            return
        self.numbers[fact] = len(self.queue)
        self.queue.append(fact)
        self.reasons.append(reason)
        if fact[0] == "reach":
            self.reached += 1
        if self.reached > MOST_REACHED or len(self.queue) > MOST_FACTS:
            raise TooGreat("too many facts")

    def next_instances(self):
        """The instances that come with the next fact that was not looked at, or None, where all were."""
        if self.looked_at >= len(self.queue):
            return None
        self.looked_at += 1
        return self.weave.take_fact(self.queue[self.looked_at - 1])

    def grow(self):
        """All instances are taken, until nothing lacks."""
        come = [first_instance()]
        while come is not None:
            for instance in come:
                self.note(instance[0], instance)
            come = self.next_instances()

    def needed_numbers(self, number):
        """The numbers of the facts that this one's reason hangs on, through all steps, and its own, rising."""
        needed = {number: True}
        left = [number]
        while left:
            reason = self.reasons[left.pop()]
            uses = [] if reason is None else reason[2]
            for use in uses:
                other = self.numbers[use]
                if other not in needed:
                    needed[other] = True
                    left.append(other)
        return sorted(needed)


class Told:
    """The told facts of a program at a fineness, with more facts handed in, or None for none."""

    def __init__(self, program, fineness=0, more=None):
        self.growth = Growth(Outline(program), fineness)
        if more is not None:
            for fact in more:
                self.growth.note(fact, None)
        self.growth.grow()

    def facts(self):
        """All of them, sorted."""
        return sorted(self.growth.queue)

    def paper(self, fact):
        """A list of instances that leads to the fact; NoFact, where it is not told."""
        if fact not in self.growth.numbers:
            raise NoFact("not told")
        told = []
        # All that a reason needs came ahead of its fact, so by their numbers the paper is in order.
        for number in self.growth.needed_numbers(self.growth.numbers[fact]):
            reason = self.growth.reasons[number]
            if reason is not None:
                told.append((reason[0], reason[1], list(reason[2])))
        return told

    def holds(self, name):
        """The things that the name holds, sorted."""
        return sorted(self.growth.weave.held.get(name, []))
