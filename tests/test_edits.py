import unittest

from samples import EVERY, EVERY_NUMBERED

from pointsure.edits import row_otherwise
from pointsure.errors import NoProgram, NoRow, PointError
from pointsure.reader import read_program

FORMS = [
    "new x tree", "row x", "func x lone", "func x pair y z", "copy x y", "take x y left", "put y left x", "push y x",
    "pull x y", "do x y", "do x y z w", "ask x y any", "ask x y grow z", "straight x y tree grow z", "give x", "tell x",
    "rest", "check x any", "fresh x leaf", "own x y seed", "place y seed x", "copy end if", "row while"]


class EditsTest(unittest.TestCase):
    def setUp(self):
        self.program = read_program(EVERY)
        self.rows = EVERY.split("\n")

    def line_of(self, number):
        lines = [line for line, row in enumerate(self.rows)
                 if row not in ("end", "else", "main") and not row.startswith(("kind ", "method "))
                 and row not in ("func pair one other keeps more most", "func lone")]
        return lines[number]

    def test_a_row_of_each_form_by_each_form(self):
        for number, words in enumerate(EVERY_NUMBERED):
            self.assertEqual(self.rows[self.line_of(number)].split(" "), words)
            if words[0] in ("if", "while"):
                continue
            for row in FORMS:
                changed = row_otherwise(self.program, number, row.split(" "))
                wanted = list(self.rows)
                wanted[self.line_of(number)] = row
                self.assertEqual(changed.shown(), "\n".join(wanted))
                self.assertEqual(changed.row_words(number), row.split(" "))
                self.assertEqual(changed.many_rows(), self.program.many_rows())
        self.assertEqual(self.program.shown(), EVERY)

    def check_no_row(self, number, words):
        before = list(words)
        with self.assertRaises(NoRow) as caught:
            row_otherwise(self.program, number, words)
        self.assertIs(type(caught.exception), NoRow)
        self.assertIsInstance(caught.exception, PointError)
        self.assertEqual(words, before)

    def test_rows_that_open_blocks(self):
        for number, words in enumerate(EVERY_NUMBERED):
            if words[0] in ("if", "while"):
                self.check_no_row(number, ["rest"])
                self.check_no_row(number, words)

    def test_numbers_that_no_row_has(self):
        for number in (-1, -27, -1000, 27, 28, 1000):
            self.check_no_row(number, ["rest"])

    def test_words_that_are_none(self):
        for words in ([], [""], ["rest", ""], ["", "rest"], ["tell", "X"], ["tell", "x1"], ["tell x"], ["tell", "x.y"],
                      ["tell", "x\n"], ["tell", "x", "y-z"], ["Rest"], ["rest\nend"], ["tell", " "], ["tell", "{"]):
            self.check_no_row(0, words)

    def test_words_that_begin_so(self):
        for text in ("if", "if choose", "if some x", "while choose", "while", "else", "end", "end x", "else if"):
            self.check_no_row(0, text.split(" "))

    def test_no_program_then(self):
        for number in (0, 12, 25):
            for row in ("tell abcdefghi", "abcdefghijkl x", "tell", "any", "main", "kind a", "method tree any", "new x any",
                        "func x", "rest x", "func x any", "func x lone y", "func x main", "func x pair y",
                        "straight x y leaf grow z", "straight x y tree any", "straight x y any grow", "keeps x", "choose"):
                with self.subTest(row=row, number=number):
                    words = row.split(" ")
                    with self.assertRaises(NoProgram) as caught:
                        row_otherwise(self.program, number, words)
                    self.assertEqual(caught.exception.line, self.line_of(number))
                    self.assertIs(type(caught.exception), NoProgram)
                    self.assertNotEqual(caught.exception.line, number)
                    self.assertEqual(words, row.split(" "))
        self.assertEqual(self.program.shown(), EVERY)

    def test_no_row_ahead_of_no_program(self):
        self.check_no_row(18, ["any"])
        self.check_no_row(99, ["tell"])
        self.check_no_row(0, ["any", "X"])
        self.check_no_row(0, ["tell", "abcdefghi", ""])

    def test_words_handed_in_are_not_kept(self):
        words = ["tell", "x"]
        changed = row_otherwise(self.program, 0, words)
        words[1] = "y"
        words.append("z")
        self.assertEqual(changed.row_words(0), ["tell", "x"])

    def test_put_back_again(self):
        changed = row_otherwise(self.program, 8, ["rest"])
        self.assertEqual(row_otherwise(changed, 8, self.program.row_words(8)).shown(), EVERY)


if __name__ == "__main__":
    unittest.main()
