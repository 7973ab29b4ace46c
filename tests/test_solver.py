import random
import unittest

from drawn import drawn_facts, drawn_text
from plain import plain_instances, plain_told
from samples import BARE, EVERY

from pointsure.checker import is_closed, is_paper
from pointsure.errors import NoFact, PointError, TooGreat
from pointsure.reader import read_program
from pointsure.solver import Told

MAIN = ("reach", "main", ())

RING = """kind a fields p
func even f g x
do y g g f x
give y
end
func odd f g x
do y g g f x
give x
end
main
new x a
func f even
func g odd
do y f f g x
end"""


def row_program(rows):
    return read_program("main\n" + "\n".join(rows) + "\nend")


def letters(number):
    """A name for each number below 17,576."""
    return "".join("abcdefghijklmnopqrstuvwxyz"[number // part % 26] for part in (676, 26, 1))


def great_program(extra):
    """A program of 5,981 and some more facts: things that go through many names."""
    rows = ["row " + letters(0)] * 20
    rows += [f"copy {letters(number + 1)} {letters(number)}" for number in range(298)]
    rows += [f"row {letters(1000 + number)}" for number in range(extra)]
    return row_program(rows)


def calling_program(many):
    """A program of many calls, which are as many reach of one function at fineness 1."""
    return read_program("func f\nend\nmain\nfunc f f\n" + "do x f\n" * many + "end")


class ToldTest(unittest.TestCase):
    def test_least_closed_facts(self):
        program = read_program("kind a fields p\nmain\nnew x a\nput x p x\ntake y x p\ntake z w p\nend")
        self.assertEqual(Told(program).facts(), [
            ("holds", ("field", 0, (), "p"), (0, ())), ("holds", ("local", "main", (), "x"), (0, ())),
            ("holds", ("local", "main", (), "y"), (0, ())), MAIN])

    def test_a_main_without_rows(self):
        for fineness in (0, 1, 2):
            self.assertEqual(Told(read_program(BARE), fineness).facts(), [MAIN])

    def test_bodies_that_are_never_called(self):
        program = read_program(EVERY)
        told = Told(program)
        self.assertEqual([fact for fact in told.facts() if fact[0] == "reach"], [("reach", "lone", ()), MAIN])

    def test_calls_that_go_round_in_a_ring(self):
        program = read_program(RING)
        for fineness in (0, 1, 2):
            told = Told(program, fineness)
            self.assertEqual(told.facts(), plain_told(program, fineness))
            self.assertTrue(is_closed(program, fineness, told.facts()))
        reach = [fact for fact in Told(program, 2).facts() if fact[0] == "reach"]
        self.assertIn(("reach", "odd", (7, 0)), reach)
        self.assertIn(("reach", "even", (0, 2)), reach)

    def test_finer_facts_tell_calls_apart(self):
        text = "kind a\nfunc f x\ngive x\nend\nmain\nfunc f f\nnew u a\nrow v\ndo y f u\ndo z f v\nend"
        program = read_program(text)
        name = ("local", "main", (), "y")
        self.assertEqual(Told(program).holds(name), [(2, ()), (3, ())])
        self.assertEqual(Told(program, 1).holds(name), [(2, ())])
        self.assertEqual(Told(program, 1).holds(("local", "f", (5,), "x")), [(3, ())])
        self.assertEqual(Told(program, 1).holds(("local", "f", (), "x")), [])

    def test_drawn_ones_with_every_paper(self):
        for seed in range(60):
            program = read_program(drawn_text(seed))
            for fineness in (0, 1, 2):
                told = Told(program, fineness)
                facts = told.facts()
                self.assertEqual(facts, plain_told(program, fineness))
                self.assertTrue(is_closed(program, fineness, facts))
                for fact in facts:
                    self.check_paper(program, fineness, told.paper(fact), fact, [])

    def check_paper(self, program, fineness, paper, fact, granted):
        """By the words of point 16."""
        self.assertEqual(paper[-1][0], fact)
        ahead = set(granted)
        for instance in paper:
            self.assertTrue(set(instance[2]) <= ahead)
            ahead.add(instance[0])
        heads = [instance[0] for instance in paper]
        self.assertEqual(len(set(heads)), len(heads))
        self.assertTrue(is_paper(program, fineness, paper, granted))

    def test_papers_hold_instances_of_their_uses(self):
        for seed in range(12):
            program = read_program(drawn_text(seed))
            told = Told(program, 1)
            for fact in told.facts():
                for instance in told.paper(fact):
                    self.assertIn(instance, plain_instances(program, 1, instance[2]))

    def test_more_facts(self):
        for seed in range(60):
            program = read_program(drawn_text(seed))
            fineness = seed % 3
            more = drawn_facts(seed, program, fineness, 25)
            more = more + more[:5]
            random.Random(seed).shuffle(more)
            before = list(more)
            told = Told(program, fineness, more)
            self.assertEqual(told.facts(), plain_told(program, fineness, more))
            self.assertEqual(more, before)
            for fact in told.facts():
                if fact in more:
                    self.assertEqual(told.paper(fact), [])
                else:
                    self.check_paper(program, fineness, told.paper(fact), fact, more)

    def test_a_told_fact_that_is_handed_in(self):
        program = row_program(["row x", "copy y x"])
        held = ("holds", ("local", "main", (), "x"), (0, ()))
        told = Told(program, 0, [held, MAIN])
        self.assertEqual((told.paper(held), told.paper(MAIN)), ([], []))
        copied = ("holds", ("local", "main", (), "y"), (0, ()))
        self.assertEqual(told.paper(copied), [(copied, 1, [MAIN, held])])
        self.assertEqual(Told(program, 0, []).paper(held), Told(program, 0).paper(held))
        self.assertEqual(Told(program, 0, None).facts(), Told(program).facts())

    def test_no_fact(self):
        program = row_program(["row x"])
        told = Told(program)
        for fact in (("holds", ("local", "main", (), "y"), (0, ())), ("reach", "main", (0,)), ("reach", "f", ()),
                     ("goes", 0, (), "main", ())):
            with self.assertRaises(NoFact) as caught:
                told.paper(fact)
            self.assertIs(type(caught.exception), NoFact)
            self.assertIsInstance(caught.exception, PointError)

    def test_the_same_paper_each_time(self):
        for seed in range(20):
            program = read_program(drawn_text(seed))
            one, other = Told(program, 1), Told(read_program(drawn_text(seed)), 1)
            for fact in reversed(one.facts()):
                self.assertEqual(one.paper(fact), one.paper(fact))
                self.assertEqual(one.paper(fact), other.paper(fact))

    def test_holds(self):
        for seed in range(30):
            program = read_program(drawn_text(seed))
            told = Told(program, 1)
            names = {fact[1] for fact in told.facts() if fact[0] == "holds"}
            for name in names:
                things = sorted(fact[2] for fact in told.facts() if fact[0] == "holds" and fact[1] == name)
                self.assertEqual(told.holds(name), things)
            self.assertEqual(told.holds(("local", "main", (), "any")), [])
            self.assertEqual(told.holds(("each", 0, (0,))), [])


class TooGreatTest(unittest.TestCase):
    def check_refused(self, program, fineness=0, more=None):
        with self.assertRaises(TooGreat) as caught:
            Told(program, fineness, more)
        self.assertIs(type(caught.exception), TooGreat)

    def test_just_so_many_facts(self):
        self.assertEqual(len(Told(great_program(19)).facts()), 6000)
        self.assertEqual(len(Told(great_program(0)).facts()), 5981)

    def test_one_fact_more(self):
        self.check_refused(great_program(20))
        self.check_refused(great_program(40))

    def test_facts_handed_in_are_counted_too_each_once(self):
        more = [("holds", ("local", "main", (), letters(5000 + number)), (0, ())) for number in range(19)]
        program = great_program(0)
        self.assertEqual(len(Told(program, 0, more + more).facts()), 6000)
        self.check_refused(program, 0, more + [("holds", ("local", "main", (), "any"), (0, ()))])
        self.assertEqual(len(Told(program, 0, Told(program).facts() + more).facts()), 6000)
        self.check_refused(row_program(["row x"]), 0, [
            ("holds", ("local", "main", (), letters(number)), (0, ())) for number in range(6000)])

    def test_just_so_many_reached(self):
        facts = Told(calling_program(63), 1).facts()
        self.assertEqual(sum(fact[0] == "reach" for fact in facts), 64)

    def test_one_reached_more(self):
        self.check_refused(calling_program(64), 1)
        self.check_refused(calling_program(64), 2)
        self.assertEqual(len(Told(calling_program(64), 0).facts()), 67)

    def test_reached_ones_that_are_handed_in_are_counted_too(self):
        program = calling_program(62)
        told = Told(program, 2, [("reach", "f", (1, 2)), ("reach", "f", (1,))])
        self.assertEqual(sum(fact[0] == "reach" for fact in told.facts()), 64)
        self.check_refused(program, 2, [("reach", "f", (1, 2)), ("reach", "f", (2, 1))])


class ListsTest(unittest.TestCase):
    def test_what_is_done_to_lists_changes_nothing(self):
        program = read_program(RING)
        more = [("reach", "even", (7, 7))]
        told = Told(program, 2, more)
        facts = told.facts()
        papers = [told.paper(fact) for fact in facts]
        name = ("local", "even", (7,), "x")
        held = told.holds(name)
        more.append(("reach", "odd", (0, 0)))
        more[0] = None
        told.facts().clear()
        for fact in facts:
            paper = told.paper(fact)
            for instance in paper:
                instance[2].clear()
            paper.clear()
        told.holds(name).clear()
        self.assertEqual(told.facts(), facts)
        self.assertEqual([told.paper(fact) for fact in facts], papers)
        self.assertEqual(told.holds(name), held)
        self.assertEqual(len(held), 1)


if __name__ == "__main__":
    unittest.main()
