"""Programs as they were read [4, 5, 7, 8]."""

from pointsure.kinds import body_heads, head_body
from pointsure.rows import BLOCK_WORDS


class Program:
    """A program; the text that it is made of is one. Nothing of it ever changes."""

    def __init__(self, text):
        self.text = text
        self.numbered = numbered_rows(text)
        self.body_texts = list(body_heads(self))

    def shown(self):
        """The text."""
        return self.text

    def bodies(self):
        """The bodies' texts, as they stand."""
        return list(self.body_texts)

    def many_rows(self):
        """How many rows have a number."""
        return len(self.numbered)

    def row_words(self, number):
        """The words of the row."""
        return list(self.numbered[number][1])

    def row_body(self, number):
        """The text of the body that the row stands in."""
        return self.numbered[number][2]

    def row_line(self, number):
        """Which row of the text it is, all rows counted, from 0."""
        return self.numbered[number][0]


def numbered_rows(text):
    """By their numbers, a dict: of each row a tuple of its place in the text, its words and its body."""
    # By a dict a number below 0 tells no row.
    rows = {}
    body = None
    depth = 0
    for line, row in enumerate(text.split("\n")):
        words = row.split(" ")
        if words[0] == "end":
            depth -= 1
        elif depth > 0:
            if words[0] != "else":
                rows[len(rows)] = (line, words, body)
            if words[0] in BLOCK_WORDS:
                depth += 1
        elif words[0] != "kind":
            body = head_body(words)
            depth = 1
    return rows
