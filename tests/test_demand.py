import unittest

from drawn import drawn_facts, drawn_text
from samples import BARE, WORDS
from test_solver import calling_program, great_program, letters

from pointsure.demand import asked, hangs_on, is_part, part_of, want_of
from pointsure.errors import TooGreat
from pointsure.reader import read_program
from pointsure.rules import instances
from pointsure.solver import Told

TEXT = """kind a fields p q
kind b of a
func one x
give x #0
end
func keep y keeps k l
copy k y #1
give k #2
give y #3
end
func pair y z
end
method a get
copy self self #4
end
method b get
end
method a set v w
fresh m a #5
place m p v #6
place m p w #7
own v m p #8
end
main
new x a #9
row x #10
func x keep x u #11
copy x y #12
take x y p #13
pull x z #14
do x f x #15
ask x r get #16
ask n r set x u #17
straight x r b get #18
own x m q #19
put s p t #20
put s q u #21
push s u #22
pull n s #23
fresh x a #24
func o keep v v #25
do n f u u #26
straight n r a set u #27
give n #28
place x q u #29
end"""
PROGRAM = read_program("\n".join(row.split(" #")[0] for row in TEXT.split("\n")))


def mains(names):
    return [("local", "main", name) for name in names.split()]


MAIN = ("reach", "main")


class WantsTest(unittest.TestCase):
    def test_want_of_each_form(self):
        thing = (4, (1,))
        for fact, want in (
                (("reach", "f", (1, 2)), ("reach", "f")), (("goes", 3, (1,), "f", (3,)), ("goes", 3)),
                (("holds", ("local", "a.b", (1,), "x"), thing), ("local", "a.b", "x")),
                (("holds", ("local", "f", (), "x.y"), thing), ("local", "f", "x.y")),
                (("holds", ("given", "f", (1,)), thing), ("given", "f")),
                (("holds", ("field", 5, (1,), "p"), thing), ("field", "p")),
                (("holds", ("each", 5, (1,)), thing), ("each",)),
                (("holds", ("kept", 5, (1,), "k"), thing), ("kept", 5, "k"))):
            self.assertEqual(want_of(fact), want)


class HangsTest(unittest.TestCase):
    def check(self, want, wanted, program=PROGRAM):
        self.assertEqual(hangs_on(program, want), sorted(set(wanted)))

    def test_reach(self):
        self.check(MAIN, [])
        self.check(("reach", "one"), [("goes", 15), MAIN])
        self.check(("reach", "keep"), [("goes", 15), MAIN])
        self.check(("reach", "pair"), [("goes", 26), MAIN])
        self.check(("reach", "a.get"), [("goes", 16), MAIN])
        self.check(("reach", "b.get"), [("goes", 16), ("goes", 18), MAIN])
        self.check(("reach", "a.set"), [("goes", 17), MAIN])
        self.check(MAIN, [], read_program(BARE))

    def test_goes(self):
        self.check(("goes", 15), [MAIN] + mains("f"))
        self.check(("goes", 16), [MAIN] + mains("r"))
        self.check(("goes", 18), [MAIN] + mains("r"))

    def test_a_local_by_each_row_that_gives_it_a_value(self):
        self.check(("local", "main", "x"), [
            MAIN, ("field", "p"), ("each",), ("goes", 15), ("given", "one"), ("given", "keep"), ("goes", 16),
            ("given", "a.get"), ("given", "b.get"), ("goes", 18)] + mains("y z m.q"))

    def test_each_row_by_itself(self):
        for row, wants in (
                ("new x a", []), ("row x", []), ("func x one", []), ("fresh x a", []), ("copy x y", mains("y")),
                ("take x y f", mains("y") + [("field", "f")]), ("pull x y", mains("y") + [("each",)]),
                ("do x y z", [("goes", 0), ("given", "one")]), ("do x y", [("goes", 0), ("given", "none")]),
                ("do x y z z", [("goes", 0)]), ("ask x y m", [("goes", 0), ("given", "a.m"), ("given", "b.m")]),
                ("ask x y m z", [("goes", 0), ("given", "c.m")]), ("straight x y a m", [("goes", 0), ("given", "a.m")]),
                ("straight x y a m z", [("goes", 0)]), ("own x y f", mains("y.f")),
                ("put y f x", []), ("push y x", []), ("give x", []), ("tell x", []), ("check x f", []),
                ("place x f y", []), ("place y x z", []), ("if some x\nend", []), ("copy y x", []), ("take y x x", []),
                ("do y x x", []), ("own y x x", [])):
            heads = ["kind a", "kind b", "kind c", "func one p", "end", "func none", "end", "method a m", "end",
                     "method b m", "end", "method c m p", "end", "main"]
            program = read_program("\n".join(heads + [row, "end"]))
            with self.subTest(row=row):
                self.check(("local", "main", "x"), [MAIN] + wants, program)

    def test_a_parameter(self):
        self.check(("local", "one", "x"), [("reach", "one"), ("goes", 15), MAIN] + mains("x"))
        self.check(("local", "pair", "y"), [("reach", "pair"), ("goes", 26), MAIN] + mains("u"))
        self.check(("local", "pair", "z"), [("reach", "pair"), ("goes", 26), MAIN] + mains("u"))
        self.check(("local", "a.set", "w"), [("reach", "a.set"), ("goes", 17), MAIN] + mains("u"))

    def test_a_parameter_that_is_given_values_too(self):
        self.check(("local", "a.set", "v"), [
            ("reach", "a.set"), ("goes", 17), MAIN, ("local", "a.set", "m.p")] + mains("x"))

    def test_self(self):
        self.check(("local", "b.get", "self"), [("reach", "b.get"), MAIN] + mains("r"))
        self.check(("local", "a.get", "self"), [("reach", "a.get"), MAIN, ("local", "a.get", "self")] + mains("r"))
        self.check(("local", "a.set", "self"), [("reach", "a.set"), MAIN] + mains("r"))

    def test_self_is_a_name_like_others_elsewhere(self):
        self.check(("local", "main", "self"), [MAIN])
        self.check(("local", "one", "self"), [("reach", "one")])

    def test_a_kept_name(self):
        self.check(("local", "keep", "l"), [
            ("reach", "keep"), ("kept", 11, "l"), ("kept", 25, "l"), MAIN] + mains("f"))
        self.check(("local", "keep", "k"), [
            ("reach", "keep"), ("kept", 11, "k"), ("kept", 25, "k"), MAIN, ("local", "keep", "y")] + mains("f"))

    def test_a_kept_name_of_a_function_that_nobody_may_call(self):
        program = read_program("func f a b keeps k\nend\nmain\nfunc x f y\ndo z x\nend")
        self.check(("local", "f", "k"), [("reach", "f"), ("kept", 0, "k")], program)

    def test_an_own_field(self):
        self.check(("local", "a.set", "m.p"), [("reach", "a.set"), ("local", "a.set", "v"), ("local", "a.set", "w")])
        self.check(("local", "a.set", "m.q"), [("reach", "a.set")])
        self.check(("local", "main", "x.q"), [MAIN] + mains("u"))
        self.check(("local", "one", "any.other"), [("reach", "one")])

    def test_names_told_nowhere(self):
        self.check(("local", "main", "any"), [MAIN])
        self.check(("local", "a.get", "any"), [("reach", "a.get")])
        self.check(("field", "any"), [])

    def test_given(self):
        self.check(("given", "one"), [("reach", "one"), ("local", "one", "x")])
        self.check(("given", "keep"), [("reach", "keep"), ("local", "keep", "k"), ("local", "keep", "y")])
        self.check(("given", "pair"), [("reach", "pair")])
        self.check(("given", "main"), [MAIN] + mains("n"))

    def test_stored(self):
        self.check(("field", "p"), [MAIN] + mains("s t"))
        self.check(("field", "q"), [MAIN] + mains("s u"))
        self.check(("each",), [MAIN] + mains("s u"))
        self.check(("each",), [], read_program(BARE))
        self.check(("kept", 11, "k"), [MAIN] + mains("x"))
        self.check(("kept", 11, "l"), [MAIN] + mains("u"))
        self.check(("kept", 25, "k"), [MAIN] + mains("v"))
        self.check(("kept", 25, "l"), [MAIN] + mains("v"))

    def test_stored_in_several_bodies(self):
        program = read_program("func f a\nput a p a\npush a b\nend\nmain\nput x p y\npush z x\nput x q w\nend")
        self.check(("field", "p"), [MAIN, ("reach", "f"), ("local", "f", "a")] + mains("x y"), program)
        self.check(("each",), [MAIN, ("reach", "f"), ("local", "f", "a"), ("local", "f", "b")] + mains("x z"), program)

    def test_a_name_that_stands_several_times_among_those_handed_on(self):
        text = "func f a b c keeps d e\nend\nmain\nfunc x f u u\ndo y x u v u\nend"
        program = read_program(text)
        goes = [("reach", "f"), ("goes", 1), MAIN]
        self.check(("local", "f", "a"), goes + mains("u"), program)
        self.check(("local", "f", "b"), goes + mains("v"), program)
        self.check(("local", "f", "c"), goes + mains("u"), program)
        self.check(("kept", 0, "d"), [MAIN] + mains("u"), program)
        self.check(("kept", 0, "e"), [MAIN] + mains("u"), program)

    def test_callers_in_several_bodies(self):
        text = "func f a g\ndo x g a a\nend\nfunc g b\nask x b m b\nend\nmain\nend"
        program = read_program(text)
        self.check(("reach", "f"), [("goes", 0), ("reach", "f")], program)
        self.check(("local", "f", "a"), [("reach", "f"), ("goes", 0), ("local", "f", "a")], program)
        self.check(("reach", "g"), [], program)

    def test_words_of_the_language(self):
        program = read_program(WORDS)
        for want in (("local", "end", "if"), ("local", "of.keeps", "keeps"), ("local", "end", "choose.some")):
            self.assertIn(("reach", want[1]), hangs_on(program, want))

    def test_told_lists_are_the_askers_own(self):
        wants = hangs_on(PROGRAM, ("given", "main"))
        hangs_on(PROGRAM, ("given", "main")).clear()
        part_of(PROGRAM, ("given", "main")).clear()
        self.assertEqual(hangs_on(PROGRAM, ("given", "main")), wants)


class PartsTest(unittest.TestCase):
    def test_by_hand(self):
        program = read_program("main\nrow x\ncopy y x\ncopy z y\npush z y\nend")
        self.assertEqual(part_of(program, MAIN), [MAIN])
        self.assertEqual(part_of(program, ("local", "main", "y")), mains("x y") + [MAIN])
        self.assertEqual(part_of(program, ("each",)), [("each",)] + mains("x y z") + [MAIN])
        self.assertEqual(part_of(program, ("field", "any")), [("field", "any")])

    def test_parts_and_lists_that_are_none(self):
        program = read_program("main\nrow x\ncopy y x\ncopy z y\nend")
        whole = mains("x y z") + [MAIN]
        self.assertTrue(is_part(program, whole))
        self.assertTrue(is_part(program, whole[::-1] + whole))
        self.assertTrue(is_part(program, []))
        self.assertTrue(is_part(program, [MAIN]))
        self.assertTrue(is_part(program, mains("x") + [MAIN]))
        self.assertFalse(is_part(program, mains("x")))
        self.assertFalse(is_part(program, mains("x z") + [MAIN]))
        self.assertFalse(is_part(program, mains("x y z")))
        self.assertTrue(is_part(program, whole + [("field", "any"), ("each",)]))

    def test_rings(self):
        program = read_program("main\ncopy x y\ncopy y x\nend")
        self.assertEqual(part_of(program, ("local", "main", "x")), mains("x y") + [MAIN])

    def test_the_part_is_the_least_one(self):
        for seed in range(30):
            program = read_program(drawn_text(seed))
            wants = sorted({want_of(fact) for fact in Told(program).facts()})[::5]
            hangs = {}
            for want in wants:
                part = part_of(program, want)
                self.assertEqual(part, sorted(set(part)))
                self.assertTrue(is_part(program, part))
                grown = {want}
                while True:
                    # Asked once of each want: to ask anew in each round would take most of the test's time.
                    hangs.update((old, hangs_on(program, old)) for old in grown if old not in hangs)
                    more = {one for old in grown for one in hangs[old]} - grown
                    if not more:
                        break
                    grown |= more
                self.assertEqual(part, sorted(grown))
                for one in part:
                    if one != want:
                        less = [other for other in part if other != one]
                        self.assertFalse(is_part(program, less))

    def test_what_is_handed_in_stays_as_it_was(self):
        wants = mains("x y") + [MAIN]
        is_part(PROGRAM, wants)
        self.assertEqual(wants, mains("x y") + [MAIN])


class AskedTest(unittest.TestCase):
    def test_just_those_told_facts_whose_wants_are_in_the_part(self):
        less = 0
        for seed in range(60):
            program = read_program(drawn_text(seed))
            for fineness in (0, 1, 2):
                facts = Told(program, fineness).facts()
                wants = sorted({want_of(fact) for fact in facts})
                for want in wants[seed % 5::6] + [("each",), ("field", "f"), ("local", "main", "any")]:
                    part = set(part_of(program, want))
                    wanted = [fact for fact in facts if want_of(fact) in part]
                    self.assertEqual(asked(program, fineness, want), wanted)
                    less += len(wanted) < len(facts)
        self.assertGreater(less, 100)

    def test_uses_of_instances_stay_in_the_part(self):
        for seed in range(60):
            program = read_program(drawn_text(seed))
            parts = {}
            for instance in instances(program, seed % 3, drawn_facts(seed, program, seed % 3, 60)):
                want = want_of(instance[0])
                if want not in parts:
                    parts[want] = set(part_of(program, want))
                for use in instance[2]:
                    self.assertIn(want_of(use), parts[want])

    def test_a_want_that_nothing_speaks_of(self):
        program = read_program("main\nrow x\nend")
        self.assertEqual(asked(program, 0, ("field", "any")), [])
        self.assertEqual(asked(program, 0, ("local", "main", "any")), [("reach", "main", ())])
        self.assertEqual(asked(program, 0, ("reach", "main")), [("reach", "main", ())])

    def test_too_great_by_their_own_count(self):
        program = great_program(20)
        self.assertRaises(TooGreat, Told, program)
        last = ("local", "main", letters(298))
        self.assertEqual(len(asked(program, 0, last)), 5981)
        self.assertEqual(len(asked(program, 0, ("local", "main", letters(1000)))), 2)
        rows = program.shown().split("\n")
        greater = read_program("\n".join(rows[:-1] + ["row " + letters(0)] + rows[-1:]))
        with self.assertRaises(TooGreat) as caught:
            asked(greater, 0, last)
        self.assertIs(type(caught.exception), TooGreat)
        self.assertEqual(len(asked(greater, 0, ("local", "main", letters(0)))), 22)

    def test_too_many_reached(self):
        self.assertEqual(len(asked(calling_program(63), 1, ("given", "f"))), 128)
        self.assertRaises(TooGreat, asked, calling_program(64), 1, ("given", "f"))
        self.assertRaises(TooGreat, asked, calling_program(64), 1, ("reach", "f"))
        self.assertEqual(len(asked(calling_program(64), 1, ("local", "main", "f"))), 2)
        self.assertEqual(len(asked(calling_program(64), 1, ("goes", 7))), 3)

    def test_told_lists_are_the_askers_own(self):
        program = read_program("main\nrow x\nend")
        asked(program, 0, ("local", "main", "x")).clear()
        self.assertEqual(len(asked(program, 0, ("local", "main", "x"))), 2)


if __name__ == "__main__":
    unittest.main()
