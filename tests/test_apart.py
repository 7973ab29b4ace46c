import unittest

from drawn import drawn_facts, drawn_inputs, drawn_text, tame_text

from pointsure.apart import never_alike
from pointsure.checker import is_closed
from pointsure.machine import Machine
from pointsure.reader import read_program
from pointsure.solver import Told

ONE = ("local", "main", (), "x")
OTHER = ("local", "main", (), "y")
OTHER_FACTS = [
    ("reach", "main", ()), ("goes", 3, (), "f", ()), ("reach", "f", ()), ("holds", ("given", "main", ()), (0, ())),
    ("holds", ("local", "f", (), "x"), (1, ())), ("holds", ("local", "main", (), "xx"), (1, ()))]


def held(name, row, calls=()):
    return ("holds", name, (row, calls))


class NeverAlikeTest(unittest.TestCase):
    def check(self, never, facts, one=ONE, other=OTHER):
        for told in (facts, facts[::-1], facts + OTHER_FACTS, OTHER_FACTS + facts, facts + facts):
            before = list(told)
            self.assertIs(never_alike(told, one, other), never)
            self.assertIs(never_alike(told, other, one), never)
            self.assertEqual(told, before)

    def test_a_thing_in_common(self):
        self.check(False, [held(ONE, 0), held(OTHER, 0)])
        self.check(False, [held(ONE, 0), held(ONE, 1), held(OTHER, 2), held(OTHER, 1)])

    def test_none_in_common(self):
        self.check(True, [held(ONE, 0), held(OTHER, 1)])
        self.check(True, [held(ONE, 0), held(ONE, 2), held(OTHER, 1), held(OTHER, 3)])

    def test_one_of_them_holds_nothing(self):
        self.check(True, [held(ONE, 0)])
        self.check(True, [held(OTHER, 0)])
        self.check(True, [])

    def test_things_of_one_row_with_other_calls(self):
        self.check(True, [held(ONE, 0, (4,)), held(OTHER, 0, (5,))])
        self.check(True, [held(ONE, 0, ()), held(OTHER, 0, (5,))])
        self.check(True, [held(ONE, 0, (4, 5)), held(OTHER, 0, (5,))])
        self.check(False, [held(ONE, 0, (4, 5)), held(OTHER, 0, (4, 5))])

    def test_a_name_and_itself(self):
        self.check(False, [held(ONE, 0)], ONE, ONE)
        self.check(True, [held(OTHER, 0)], ONE, ONE)

    def test_names_of_every_form(self):
        names = [ONE, ("local", "main", (1,), "x"), ("local", "main", (), "x.f"), ("local", "f", (2,), "x"),
                 ("given", "f", (2,)), ("given", "f", ()), ("field", 1, (), "p"), ("field", 1, (), "q"),
                 ("field", 2, (), "p"), ("each", 1, ()), ("each", 1, (3,)), ("kept", 1, (), "p"), ("kept", 1, (), "k")]
        for one in names:
            for other in names:
                self.check(False, [held(one, 7), held(other, 7)], one, other)
                if one != other:
                    self.check(True, [held(one, 7), held(other, 8)], one, other)

    def test_by_told_facts(self):
        program = read_program("kind a fields p\nmain\nnew x a\nnew y a\nput x p y\ntake z x p\ncopy w y\nend")
        facts = Told(program).facts()
        names = {x: ("local", "main", (), x) for x in "xyzw"}
        self.assertTrue(never_alike(facts, names["x"], names["y"]))
        self.assertTrue(never_alike(facts, names["x"], names["z"]))
        self.assertFalse(never_alike(facts, names["y"], names["z"]))
        self.assertFalse(never_alike(facts, names["w"], names["z"]))
        self.assertFalse(never_alike(facts, ("field", 0, (), "p"), names["w"]))


class RunsTest(unittest.TestCase):
    def check_run(self, machine, facts, fineness):
        """How many pairs of locals of one call that are the same thing were seen."""
        seen = 0
        while machine.step():
            path = ()
            for body, row, pairs in machine.calls():
                calls = path[max(0, len(path) - fineness):]
                things = [(x, value) for x, value in pairs if value[0] == "thing"]
                for number, (x, value) in enumerate(things):
                    for y, other in things[number + 1:]:
                        if value == other:
                            seen += 1
                            one, two = ("local", body, calls, x), ("local", body, calls, y)
                            self.assertFalse(never_alike(facts, one, two))
                path += (row,)
        return seen

    def test_never_the_same_thing_in_a_run(self):
        seen = 0
        for seed in range(45):
            program = read_program(tame_text(seed, 10) if seed % 2 else drawn_text(seed))
            fineness = seed % 3
            told = Told(program, fineness).facts()
            more = Told(program, fineness, drawn_facts(seed, program, fineness, 4)).facts()
            for facts in (told, more):
                self.assertTrue(is_closed(program, fineness, facts))
                seen += self.check_run(Machine(program, drawn_inputs(seed), 60), facts, fineness)
        self.assertGreater(seen, 300)


if __name__ == "__main__":
    unittest.main()
