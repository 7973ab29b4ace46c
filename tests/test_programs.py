import unittest

from samples import BARE, EVERY, EVERY_NUMBERED, WORDS

from pointsure.programs import Program


class ProgramTest(unittest.TestCase):
    def test_shown_as_it_was(self):
        for text in (EVERY, WORDS, BARE, "kind a\nmain\nend", "func f\nend\nmain\nrest\nend"):
            self.assertEqual(Program(text).shown(), text)

    def test_bodies_as_they_stand(self):
        self.assertEqual(Program(EVERY).bodies(), ["pair", "tree.grow", "leaf.fall", "lone", "main"])
        self.assertEqual(Program(BARE).bodies(), ["main"])
        self.assertEqual(Program(WORDS).bodies(), ["end", "of.keeps", "fields.main", "rest", "main"])

    def test_functions_and_methods_mixed(self):
        program = Program("kind k\nkind b\nmethod k m\nend\nfunc z\nend\nmethod b m\nend\nfunc a\nend\nmain\nend")
        self.assertEqual(program.bodies(), ["k.m", "z", "b.m", "a", "main"])

    def test_words_of_each_row(self):
        program = Program(EVERY)
        self.assertEqual(program.many_rows(), len(EVERY_NUMBERED))
        self.assertEqual(program.many_rows(), 27)
        for number, words in enumerate(EVERY_NUMBERED):
            self.assertEqual(program.row_words(number), words)

    def test_body_of_each_row(self):
        program = Program(EVERY)
        wanted = ["pair"] * 12 + ["tree.grow"] * 13 + ["main"] * 2
        self.assertEqual([program.row_body(number) for number in range(27)], wanted)

    def test_else_and_end_have_no_number_but_if_and_while_have(self):
        text = "main\nif choose\nelse\nwhile choose\nend\nif some a\nelse\nrest\nend\nend\ngive a\nend"
        program = Program(text)
        self.assertEqual([program.row_words(number)[0] for number in range(program.many_rows())],
                         ["if", "while", "if", "rest", "give"])

    def test_line_of_each_row(self):
        program = Program(EVERY)
        rows = EVERY.split("\n")
        lines = [program.row_line(number) for number in range(27)]
        self.assertEqual(lines, sorted(set(lines)))
        for number, line in enumerate(lines):
            self.assertEqual(rows[line].split(" "), program.row_words(number))

    def test_no_rows(self):
        self.assertEqual(Program(BARE).many_rows(), 0)
        self.assertEqual(Program("kind a\nfunc f\nend\nmethod a m\nend\nmain\nend").many_rows(), 0)

    def test_a_body_without_rows_between(self):
        program = Program("func f\ngive f\nend\nfunc g\nend\nmain\ntell a\nend")
        self.assertEqual([program.row_body(0), program.row_body(1)], ["f", "main"])
        self.assertEqual(program.bodies(), ["f", "g", "main"])

    def test_words_of_the_language_within(self):
        program = Program(WORDS)
        self.assertEqual(program.row_words(2), ["func", "func", "end", "if", "else"])
        self.assertEqual(program.row_body(2), "end")
        self.assertEqual({program.row_body(number) for number in range(program.many_rows())}, {"end"})
        self.assertEqual(program.many_rows(), 24)

    def test_func_within_blocks_opens_no_body(self):
        program = Program("func f\nend\nmain\nif choose\nfunc a f\nelse\nfunc a f\nend\nfunc a f\nend")
        self.assertEqual(program.bodies(), ["f", "main"])
        self.assertEqual([program.row_body(number) for number in range(4)], ["main"] * 4)

    def test_told_lists_are_the_askers_own(self):
        program = Program(EVERY)
        bodies = program.bodies()
        words = program.row_words(8)
        bodies.append("other")
        bodies[0] = "other"
        words.clear()
        self.assertEqual(program.bodies(), ["pair", "tree.grow", "leaf.fall", "lone", "main"])
        self.assertEqual(program.row_words(8), ["do", "one", "again", "one", "other"])
        self.assertEqual(program.shown(), EVERY)

    def test_programs_do_not_mix(self):
        one = Program("main\ntell a\nend")
        other = Program("func f\nrest\nend\nmain\nend")
        self.assertEqual((one.bodies(), one.many_rows(), one.row_words(0)), (["main"], 1, ["tell", "a"]))
        self.assertEqual((other.bodies(), other.many_rows(), other.row_body(0)), (["f", "main"], 1, "f"))


if __name__ == "__main__":
    unittest.main()
