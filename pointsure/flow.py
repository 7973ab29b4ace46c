"""Which row comes behind which, through the blocks [10]."""

from pointsure.kinds import head_body
from pointsure.rows import BLOCK_WORDS


class Flow:
    """By bodies the first rows, by rows the ones behind them; None where the body has no further row."""

    def __init__(self, program):
        self.first = {}
        # Behind a row that is no condition, and behind one that is true and one that is not.
        self.behind = {}
        self.otherwise = {}
        for head, marks in body_marks(program):
            self.first[head_body(head)] = self.join_rows(marks)

    def join_rows(self, marks):
        """The first of a body's rows, which are joined from the last one on."""
        follows = None
        # Of each block that is open, seen from its end: the row behind it, and the first one of its `else`.
        blocks = []
        for word, number in reversed(marks):
            if word == "end":
                blocks.append((follows, follows))
                # Behind a while's last row the while itself comes again.
                if number is not None:
                    follows = number
            elif word == "else":
                blocks[-1] = (blocks[-1][0], follows)
                follows = blocks[-1][0]
            else:
                self.behind[number] = follows
                self.otherwise[number] = follows
                if word in BLOCK_WORDS:
                    self.otherwise[number] = blocks.pop()[1]
                follows = number
        return follows


def body_marks(program):
    """Of each body: a pair of its head's words, and of its rows, `else` and `end` within as pairs (word, number).

    The `end` of a `while` has the number of this while; every other `end`, and `else`, has None.
    """
    bodies = []
    blocks = []
    number = 0
    for row in program.shown().split("\n"):
        words = row.split(" ")
        word = words[0]
        if not blocks:
            if word != "kind":
                bodies.append((words, []))
                blocks.append(None)
            continue
        if word == "end":
            mark = (word, blocks.pop())
        elif word == "else":
            mark = (word, None)
        else:
            mark = (word, number)
            if word in BLOCK_WORDS:
                blocks.append(number if word == "while" else None)
            number += 1
        if blocks:
            bodies[-1][1].append(mark)
    return bodies
