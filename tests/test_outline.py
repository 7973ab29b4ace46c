import unittest

from samples import EVERY, EVERY_NUMBERED

from pointsure.kinds import fields_of, finds, kept_of, kind_names, params_of
from pointsure.outline import Outline
from pointsure.programs import Program


class OutlineTest(unittest.TestCase):
    def setUp(self):
        self.program = Program(EVERY)
        self.outline = Outline(self.program)

    def test_rows_and_bodies(self):
        self.assertEqual([row.word for row in self.outline.rows], [words[0] for words in EVERY_NUMBERED])
        self.assertEqual(self.outline.homes, [self.program.row_body(number) for number in range(27)])
        self.assertEqual(list(self.outline.own_rows), self.program.bodies())
        self.assertEqual(self.outline.own_rows["main"], [25, 26])
        self.assertEqual(self.outline.own_rows["leaf.fall"], [])

    def test_as_the_program_tells(self):
        for body in self.program.bodies():
            self.assertEqual(self.outline.params[body], params_of(self.program, body))
            self.assertEqual(self.outline.kept[body], kept_of(self.program, body))
        for kind in kind_names(self.program):
            self.assertEqual(self.outline.fields[kind], fields_of(self.program, kind))
            for method in ("grow", "fall", "lone"):
                self.assertEqual(self.outline.found(kind, method), finds(self.program, kind, method))

    def test_what_rows_make(self):
        self.assertEqual([self.outline.made_kind(number) for number in (-1, 0, 1, 2, 15, 27)],
                         [None, "leaf", None, None, None, None])
        self.assertEqual([self.outline.made_function(number) for number in (-1, 0, 2, 25, 26, 27)],
                         [None, None, "pair", "lone", None, None])

    def test_fields_of_what_rows_make(self):
        for field, has in (("left", True), ("seed", True), ("made", False)):
            self.assertEqual(self.outline.has_field(0, field), has)
        self.assertFalse(self.outline.has_field(1, "left"))
        self.assertFalse(self.outline.has_field(15, "seed"))


if __name__ == "__main__":
    unittest.main()
