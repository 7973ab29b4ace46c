"""Texts read as programs, or refused with the number of a row [4, 5, 6]."""

from pointsure.errors import NoProgram
from pointsure.kinds import head_body, head_kept, head_params, method_body
from pointsure.programs import Program
from pointsure.rows import BLOCK_WORDS, Row, is_name, is_row

MOST_BLOCKS = 8


class Reading:
    """What the rows that were read so far have told."""

    def __init__(self):
        self.fields = {}
        self.heads = {}
        # The body that is open, or None, and the words of the blocks that are open in it.
        self.body = None
        self.blocks = []
        self.over = False
        # Rows within bodies that name functions and methods, which may be told further down.
        self.later = []


def read_program(text):
    """The program that the text is; else NoProgram."""
    reading = Reading()
    rows = [row.split(" ") for row in text.split("\n")]
    for line, words in enumerate(rows):
        if not all([is_name(word) for word in words]) or not reads_row(reading, line, words):
            raise NoProgram(line)
    if not reading.over:
        raise NoProgram(len(rows))
    for line, row in reading.later:
        if not names_what_is_told(reading, row):
            raise NoProgram(line)
    return Program(text)


def reads_row(reading, line, words):
    """Whether the row may stand at its place; what it tells is kept."""
    if reading.over:
        return False
    if reading.body is not None:
        return reads_within(reading, line, words)
    if words[0] == "kind":
        return reads_kind(reading, words)
    if not is_head(reading, words) or head_body(words) in reading.heads:
        return False
    reading.body = head_body(words)
    reading.heads[reading.body] = words
    return True


def reads_kind(reading, words):
    """The same of a row that tells a kind."""
    if reading.heads or len(words) < 2 or words[1] in reading.fields:
        return False
    behind = words[2:]
    fields = []
    if behind and behind[0] == "of":
        if len(behind) < 2 or behind[1] not in reading.fields:
            return False
        fields = list(reading.fields[behind[1]])
        behind = behind[2:]
    if behind and (behind[0] != "fields" or len(behind) < 2):
        return False
    fields.extend(behind[1:])
    reading.fields[words[1]] = fields
    return are_once(fields)


def is_head(reading, words):
    """Whether the row may open a body, wherever else it is told."""
    if words[0] == "func":
        return len(words) > 1 and words[1] != "main" and are_heads_names(words)
    if words[0] == "method":
        return len(words) > 2 and words[1] in reading.fields and are_heads_names(words)
    return words == ["main"]


def are_heads_names(words):
    """Whether the parameters and kept names of a head are told once, and something behind the word keeps."""
    if words[0] == "func" and "keeps" in words[2:] and not head_kept(words):
        return False
    names = head_params(words) + head_kept(words)
    return "self" not in names and are_once(names)


def are_once(names):
    """Whether no name stands twice."""
    return len(set(names)) == len(names)


def reads_within(reading, line, words):
    """Whether the row may stand at its place within a body."""
    if words == ["end"]:
        close_block(reading)
        return True
    if words == ["else"]:
        return turns_to_else(reading)
    if not is_row(words):
        return False
    row = Row(words)
    if row.kind is not None and row.kind not in reading.fields:
        return False
    if row.word in BLOCK_WORDS:
        reading.blocks.append(row.word)
    if row.word in ("func", "straight"):
        reading.later.append((line, row))
    return len(reading.blocks) <= MOST_BLOCKS


def close_block(reading):
    """What an `end` closes is closed: a block, or the body."""
    if reading.blocks:
        reading.blocks.pop()
        return
    reading.over = reading.body == "main"
    reading.body = None


def turns_to_else(reading):
    """Whether the innermost block is an `if` without its `else` so far; it has one then."""
    if not reading.blocks or reading.blocks[-1] != "if":
        return False
    reading.blocks[-1] = "else"
    return True


def names_what_is_told(reading, row):
    """Whether the function, or the kind's own method, that the row names is told, and keeps as many names."""
    if row.word == "straight":
        return method_body(row.kind, row.method) in reading.heads
    if row.function == "main" or row.function not in reading.heads:
        return False
    return len(head_kept(reading.heads[row.function])) == len(row.handed)
