"""Rows put otherwise [23]."""

from pointsure.errors import NoRow
from pointsure.reader import read_program
from pointsure.rows import BLOCK_WORDS, is_letters


def row_otherwise(program, number, words):
    """The program with these words in the place of the row's own; NoRow, or NoProgram."""
    if not may_be_otherwise(program, number) or not are_words_of_a_row(words):
        raise NoRow("no row that may be put so")
    return with_rows(program, {number: words})


def may_be_otherwise(program, number):
    """Whether the number is a row's, and the row opens no block."""
    return 0 <= number < program.many_rows() and program.row_words(number)[0] not in BLOCK_WORDS


def are_words_of_a_row(words):
    """Whether they are words at all, and open, turn or close no block."""
    if not words or not all([is_letters(word) for word in words]):
        return False
    return words[0] not in BLOCK_WORDS and words[0] not in ("else", "end")


def with_rows(program, changed):
    """The program read anew, with other words in the place of some rows', by their numbers."""
    rows = program.shown().split("\n")
    for number in changed:
        rows[program.row_line(number)] = " ".join(changed[number])
    return read_program("\n".join(rows))
