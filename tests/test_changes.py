import random
import unittest

from drawn import drawn_facts, drawn_text, tame_text
from plain import plain_allowed

from pointsure.changes import is_allowed
from pointsure.reader import read_program
from pointsure.solver import Told

# b and c find m in b.m, a and e in a.m, d finds none; n is told by a alone.
KINDS = """kind a fields p q
kind b of a
kind c of b
kind d
kind e of a
method a m
end
method b m
end
method a n one
end
func f
end
"""


def numbers_of(program, row):
    return [n for n in range(program.many_rows()) if program.row_words(n) == row.split(" ")]


class Allowed(unittest.TestCase):
    def check(self, wanted, program, change, facts=None):
        """Held by the facts handed in, or by the told ones, in any order and some twice."""
        facts = Told(program).facts() if facts is None else facts
        for told in (facts, facts[::-1] + facts):
            before = list(told)
            self.assertIs(is_allowed(program, told, change), wanted, (program.shown(), change))
            self.assertEqual(told, before)
        self.assertEqual(plain_allowed(program, facts, change), wanted)

    def without_reach(self, program, body):
        return [fact for fact in Told(program).facts() if fact != ("reach", body, ())]


class StraightTest(Allowed):
    def program(self, rows, ask="ask z y m"):
        return read_program(KINDS + "main\n" + "\n".join(rows + [ask]) + "\nend")

    def check_kinds(self, rows, allowed, ask="ask z y m"):
        program = self.program(rows, ask)
        for kind in ("a", "b", "c", "d", "e", "", "f", "m", "zz", "main", "a.m"):
            self.check(kind in allowed, program, (program.many_rows() - 1, "straight", kind))

    def test_each_kind_by_itself(self):
        self.check_kinds(["new y a"], ["a"])
        self.check_kinds(["new y b"], ["b"])
        self.check_kinds(["new y c"], ["b"])
        self.check_kinds(["new y e"], ["a"])
        self.check_kinds(["new y d"], [])

    def test_several_things(self):
        self.check_kinds(["new y b", "new y c"], ["b"])
        self.check_kinds(["new y a", "new y e", "new y a"], ["a"])
        self.check_kinds(["new y a", "new y b"], [])
        self.check_kinds(["new y b", "new y a"], [])
        self.check_kinds(["new y b", "new y d"], [])
        self.check_kinds(["new y e", "copy y w", "new w c", "new w e"], [])

    def test_things_that_are_no_records(self):
        self.check_kinds(["row y", "new y c", "func y f"], ["b"])
        self.check_kinds(["row y", "func y f"], ["a", "b"])
        self.check_kinds(["fresh y b"], ["a", "b"])

    def test_a_y_that_holds_nothing(self):
        self.check_kinds([], ["a", "b"])
        self.check_kinds([], ["a"], "ask z y n")
        self.check_kinds([], [], "ask z y any")

    def test_another_method(self):
        self.check_kinds(["new y b", "new y e"], ["a"], "ask z y n x")
        self.check_kinds(["new y d"], [], "ask z y n x")
        self.check_kinds(["new y b"], [], "ask z y any")

    def test_another_number_of_names_hinders_nothing(self):
        self.check_kinds(["new y b"], ["a"], "ask z y n")
        self.check_kinds(["new y b"], ["b"], "ask z y m x x")

    def test_only_y_of_its_own_body(self):
        rows = ["new x a", "new z a", "func g f", "do z g"]
        self.check_kinds(rows, ["a", "b"], "ask x y m x z")
        program = read_program(
            KINDS.replace("func f\n", "func f\nnew y a\n") + "main\nfunc g f\ndo z g\nnew y b\nask z y m\nend")
        self.check(True, program, (4, "straight", "b"))
        self.check(False, program, (4, "straight", "a"))

    def test_not_reached(self):
        program = read_program(KINDS.replace("func f\n", "func f\nnew y b\nask z y m\n") + "main\nnew y b\nask z y m\nend")
        self.check(False, program, (1, "straight", "b"))
        self.check(True, program, (3, "straight", "b"))
        self.check(False, program, (3, "straight", "b"), self.without_reach(program, "main"))
        self.check(True, program, (1, "straight", "b"), [("reach", "f", ())])
        self.check(True, program, (1, "straight", "a"), [("reach", "f", ())])

    def test_by_facts_handed_in(self):
        program = self.program(["new y b", "new w a", "row v"])
        reach, name = ("reach", "main", ()), ("local", "main", (), "y")
        self.check(True, program, (3, "straight", "b"), [reach, ("holds", name, (0, ()))])
        self.check(False, program, (3, "straight", "b"), [reach, ("holds", name, (0, ())), ("holds", name, (1, ()))])
        self.check(True, program, (3, "straight", "a"), [reach, ("holds", name, (1, ())), ("holds", name, (2, ()))])
        self.check(True, program, (3, "straight", "a"), [reach, ("holds", ("local", "main", (), "z"), (0, ()))])
        self.check(False, program, (3, "straight", "b"), [("holds", name, (0, ()))])
        self.check(False, program, (3, "straight", "b"), [])

    def test_other_rows(self):
        for row in ("straight z y b m", "do z y m", "new z b", "take z y m", "rest", "copy y z", "if some y\nend"):
            program = self.program(["new y b"], row)
            for kind in ("a", "b", ""):
                self.check(False, program, (1, "straight", kind))


APART = """kind a fields p x
kind x of a
method a x
end
method a m
end
method a n one
end
method x m
end
func x
end
func g keeps one
end
func h
end
"""
# A / stands for a row's end.
HARMLESS = """take z x p
put x p z
take z x any
put x x z
tell x
if some x/end
while some x/end
if some x/else/take z x p/end
while choose/put x p z/end
take z y x
put y x z
check y x
own z y x
place y x z
ask z y x
new z x
fresh z x
func z x
straight z y a x
straight z y x m
copy y z
do y z w
ask y z n w
push y z
pull y z
give y
tell y
if same y z/end
rest""".split("\n")
HINDERING = """new x a
new x x
row x
func x h
copy x y
copy y x
copy x x
take x y p
take x x p
put x p x
put y p x
push x y
push y x
pull x y
pull y x
do x y
do y x
do y z x
do y z w x
ask x y m
ask y x m
ask y z n x
straight x y a m
straight y x a m
straight y z a n x
func y g x
give x
check x p
fresh x a
own x y p
own y x p
place x p y
place y p x
if same x y
if same y x
while same x x
while same y x""".split("\n")


class ApartTest(Allowed):
    def program(self, row, head="main"):
        body = f"{head}\nnew x a\n{row}\nend\n"
        if head == "main":
            return read_program(APART + body[:-1])
        return read_program(APART + body + "main\nend")

    def check_beside(self, wanted, row, head="main", body="main"):
        program = self.program(row, head)
        facts = Told(program).facts() + ([("reach", body, ())] if body != "main" else [])
        self.check(wanted, program, (0, "apart", ""), facts)
        # The same with the row ahead of it.
        text = program.shown().replace(f"new x a\n{row}\n", f"{row}\nnew x a\n", 1)
        program = read_program(text)
        self.check(wanted, program, (numbers_of(program, "new x a")[-1], "apart", ""), facts)

    def test_alone(self):
        for head, body in (("main", "main"), ("func k", "k"), ("method a k y", "a.k"), ("func k y keeps z", "k")):
            self.check_beside(True, "rest", head, body)

    def test_rows_that_hinder_nothing(self):
        rows = [row.replace("/", "\n") for row in HARMLESS]
        for row in rows:
            for head, body in (("main", "main"), ("method a k y z", "a.k")):
                self.check_beside(True, row, head, body)
        self.check_beside(True, "\n".join(rows))

    def test_rows_that_hinder(self):
        for row in HINDERING:
            block = row.startswith(("if", "while"))
            for head, body in (("main", "main"), ("func k y keeps z", "k")):
                self.check_beside(False, row + "\nend" if block else row, head, body)
            if not block:
                self.check_beside(False, f"if choose\nelse\nwhile choose\n{row}\nend\nend")

    def test_two_makings_hinder_one_another(self):
        program = self.program("new x a")
        self.check(False, program, (0, "apart", ""))
        self.check(False, program, (1, "apart", ""))

    def test_parameters_kept_names_and_self(self):
        for head, body in (("func k x", "k"), ("func k y x", "k"), ("func k keeps x", "k"), ("func k y keeps z x", "k"),
                           ("method a k x", "a.k"), ("method a k y x", "a.k")):
            self.check_beside(False, "rest", head, body)
        for head, body, wanted in (("method a k", "a.k", False), ("func k", "k", True), ("main", "main", True)):
            program = read_program(APART + f"{head}\nnew self a\nend" + ("\nmain\nend" if head != "main" else ""))
            self.check(wanted, program, (0, "apart", ""), [("reach", body, ())])

    def test_x_in_other_bodies_hinders_nothing(self):
        program = read_program("kind a fields p\nfunc x x\ncopy y x\nrow x\nend\nfunc k keeps x\ngive x\nend\n"
                               "method a x x\nend\nmain\nnew x a\nend")
        self.check(True, program, (numbers_of(program, "new x a")[0], "apart", ""))

    def test_not_reached(self):
        program = self.program("rest", "func k")
        self.check(False, program, (0, "apart", ""))
        self.check(True, program, (0, "apart", ""), [("reach", "k", ())])
        program = self.program("rest")
        self.check(True, program, (0, "apart", ""))
        self.check(False, program, (0, "apart", ""), self.without_reach(program, "main"))
        self.check(False, program, (0, "apart", ""), [])

    def test_other_rows(self):
        for row in ("row w", "func w h", "fresh w a", "copy w y", "put y p z", "tell w", "if some w\nend"):
            self.check(False, self.program(row), (1, "apart", ""))

    def test_a_kind_that_is_not_empty(self):
        for kind in ("a", "x", "apart", " ", "new"):
            self.check(False, self.program("rest"), (0, "apart", kind))


UNREAD = """kind a fields p q
kind b of a
func f one
{0}
end
func never one
{1}
end
main
new x a
new y b
row l
func f f
do z f x
put x p y
{2}
end"""


class UnreadTest(Allowed):
    def program(self, called="rest", never="rest", main="rest"):
        return read_program(UNREAD.format(called, never, main))

    def check_put(self, wanted, program, facts=None, row="put x p y"):
        self.check(wanted, program, (numbers_of(program, row)[0], "unread", ""), facts)

    def test_no_take_at_all(self):
        self.check_put(True, self.program())

    def test_a_take_of_a_like_thing(self):
        self.check_put(False, self.program(main="take z x p"))
        self.check_put(False, self.program(main="copy w x\ntake z w p"))
        self.check_put(False, self.program(called="take z one p"))
        self.check_put(False, self.program(main="if choose\nelse\ntake z x p\nend"))
        self.check_put(False, self.program(main="take x x p"))

    def test_a_take_of_another_thing(self):
        self.check_put(True, self.program(main="take z y p"))
        self.check_put(True, self.program(main="take z l p\ntake z any p"))
        self.check_put(False, self.program(main="take z y p\ncopy y x"))

    def test_a_take_of_another_field(self):
        self.check_put(True, self.program(main="take z x q\ntake p x any\ntake p p q"))

    def test_a_take_in_a_row_that_is_not_reached(self):
        self.check_put(True, self.program(never="new one a\ntake z one p"))
        program = self.program(never="take z one p")
        facts = Told(program).facts() + [("holds", ("local", "never", (), "one"), (numbers_of(program, "new x a")[0], ()))]
        self.check_put(True, program, facts)
        self.check_put(False, program, facts + [("reach", "never", ())])

    def test_other_rows_that_look_at_the_field(self):
        self.check_put(True, self.program(main="put x p x\ncheck x p\nown z x p\nplace x p z\nask z x p"))

    def test_a_y_that_holds_nothing_or_no_records(self):
        self.check_put(True, self.program(main="put any p x\ntake z x p\ntake z any p"), row="put any p x")
        self.check_put(True, self.program(main="put l p x\ntake z x p"), row="put l p x")
        # Told is of things, not of records alone.
        self.check_put(False, self.program(main="put l p x\ntake z l p"), row="put l p x")

    def test_a_field_that_the_kind_does_not_have(self):
        self.check_put(False, self.program(main="put x any y\ntake z x any"), row="put x any y")
        self.check_put(True, self.program(main="put x any y\ntake z y any"), row="put x any y")

    def test_not_reached(self):
        program = self.program(never="put one q one")
        self.check_put(False, program, row="put one q one")
        self.check_put(True, program, [("reach", "never", ())], "put one q one")
        self.check_put(False, self.program(), self.without_reach(self.program(), "main"))
        self.check_put(False, self.program(), [])

    def test_locals_of_their_own_bodies(self):
        # Called x in another body, too, but another thing.
        self.check_put(True, self.program(called="new x b\ntake z x p"))
        self.check_put(True, self.program(called="take z x p"))

    def test_other_rows(self):
        program = self.program(main="place x p y\npush l x\ncheck x p\ntake z y q\nif some x\nend")
        for row in ("place x p y", "push l x", "check x p", "take z y q", "if some x", "new x a", "do z f x"):
            self.check_put(False, program, row=row)

    def test_a_kind_that_is_not_empty(self):
        program = self.program()
        for kind in ("a", "p", "unread", " "):
            self.check(False, program, (numbers_of(program, "put x p y")[0], "unread", kind))


class NoneTest(Allowed):
    def test_rows_that_are_none(self):
        program = read_program("kind a fields p\nmethod a m\nend\nmain\nnew x a\nput x p x\nask y x m\nend")
        for number in (-1, -2, -3, 3, 4, 1000, 10 ** 12, -10 ** 12):
            for change in ((number, "straight", "a"), (number, "apart", ""), (number, "unread", "")):
                self.check(False, program, change)

    def test_words_that_are_none(self):
        program = read_program("kind a fields p\nmethod a m\nend\nmain\nnew x a\nput x p z\nask y y m\nend")
        self.check(True, program, (0, "apart", ""))
        self.check(True, program, (1, "unread", ""))
        self.check(True, program, (2, "straight", "a"))
        for number in (0, 1, 2):
            for word in ("", "Apart", "apart ", "unreads", "fresh", "check", "new", "put", "ask", "any", "\n"):
                self.check(False, program, (number, word, ""))
                self.check(False, program, (number, word, "a"))

    def test_drawn_ones(self):
        allowed = {"straight": 0, "apart": 0, "unread": 0}
        for seed in range(16):
            program = read_program((tame_text if seed % 2 else drawn_text)(seed))
            kinds = ["tree", "leaf", "of", "end", ""]
            for facts in (Told(program).facts(), drawn_facts(seed, program, 0, 60)):
                before = list(facts)
                # Rows of other words are looked at now and then.
                others = range(-1, program.many_rows() + 1, 9)
                changing = [n for n in range(program.many_rows()) if program.row_words(n)[0] in ("new", "put", "ask")]
                for number in sorted(set(others) | set(changing)):
                    kind = random.Random(seed * 1000 + number).choice(kinds)
                    for change in ((number, "straight", kind), (number, "apart", ""), (number, "unread", "")):
                        told = is_allowed(program, facts, change)
                        self.assertIs(told, plain_allowed(program, facts, change))
                        allowed[change[1]] += told
                self.assertEqual(facts, before)
        for word in allowed:
            self.assertGreater(allowed[word], 20)


if __name__ == "__main__":
    unittest.main()
