import random
import unittest

from drawn import drawn_inputs, drawn_text
from plain import plain_told

from pointsure.checker import is_closed, is_paper, standing
from pointsure.machine import Machine
from pointsure.reader import read_program
from pointsure.solver import Told

MAIN = ("reach", "main", ())


def local(x, body="main", calls=()):
    return ("local", body, calls, x)


class ClosedTest(unittest.TestCase):
    def setUp(self):
        self.program = read_program("main\nrow x\ncopy y x\ncopy z y\nend")
        self.facts = [("holds", local(x), (0, ())) for x in "xyz"] + [MAIN]

    def test_closed(self):
        self.assertTrue(is_closed(self.program, 0, self.facts))
        self.assertTrue(is_closed(self.program, 0, self.facts[::-1] + self.facts))

    def test_one_less(self):
        for number in range(3):
            less = self.facts[:number] + self.facts[number + 1:]
            self.assertFalse(is_closed(self.program, 0, less))
        self.assertFalse(is_closed(self.program, 0, self.facts[:3]))
        self.assertFalse(is_closed(self.program, 0, []))

    def test_more(self):
        self.assertTrue(is_closed(self.program, 0, self.facts + [("holds", local("z"), (0, ()))]))
        self.assertTrue(is_closed(self.program, 0, self.facts + [("holds", local("w"), (0, ()))]))
        other = read_program("main\nrow x\ncopy y x\ncopy z y\nrow w\nend")
        self.assertFalse(is_closed(other, 0, self.facts))
        facts = self.facts + [("holds", local("w"), (3, ()))]
        self.assertTrue(is_closed(other, 0, facts))
        self.assertTrue(is_closed(other, 0, facts + [("holds", local("z"), (3, ()))]))
        self.assertFalse(is_closed(other, 0, facts + [("holds", local("y"), (3, ()))]))

    def test_a_greater_closed_one_than_the_told(self):
        facts = self.facts + [("reach", "main", (2,))]
        self.assertFalse(is_closed(self.program, 1, facts))

    def test_drawn_ones(self):
        for seed in range(40):
            program = read_program(drawn_text(seed))
            fineness = seed % 3
            facts = plain_told(program, fineness)
            self.assertTrue(is_closed(program, fineness, facts))
            chance = random.Random(seed)
            mixed = list(facts)
            chance.shuffle(mixed)
            self.assertTrue(is_closed(program, fineness, mixed))
            for taken in chance.sample(facts, min(5, len(facts))):
                less = [fact for fact in facts if fact != taken]
                paper = Told(program, fineness).paper(taken)
                # Without the fact itself its last instance has a head that lacks.
                self.assertTrue(set(paper[-1][2]) <= set(facts))
                self.assertEqual(is_closed(program, fineness, less), taken in paper[-1][2])


class PaperTest(unittest.TestCase):
    def setUp(self):
        self.program = read_program("kind a fields p q\nmain\nnew x a\nput x p x\ntake y x p\nput y p y\ncopy z y\nend")
        self.x = ("holds", local("x"), (0, ()))
        self.p = ("holds", ("field", 0, (), "p"), (0, ()))
        self.y = ("holds", local("y"), (0, ()))
        self.paper = [
            (MAIN, -1, []), (self.x, 0, [MAIN]), (self.p, 1, [MAIN, self.x, self.x]), (self.y, 2, [MAIN, self.x, self.p])]

    def right(self, paper, granted=()):
        return is_paper(self.program, 0, paper, list(granted))

    def test_right(self):
        self.assertTrue(self.right(self.paper))
        for many in range(4):
            self.assertTrue(self.right(self.paper[:many]))

    def test_empty(self):
        self.assertTrue(self.right([]))
        self.assertTrue(self.right([], [self.x]))

    def test_an_instance_left_out(self):
        for number in range(3):
            self.assertFalse(self.right(self.paper[:number] + self.paper[number + 1:]))

    def test_granted(self):
        self.assertTrue(self.right(self.paper[1:], [MAIN]))
        self.assertTrue(self.right(self.paper[3:], [self.p, self.x, MAIN]))
        self.assertFalse(self.right(self.paper[3:], [self.p, MAIN]))
        self.assertTrue(self.right(self.paper, [self.y, MAIN, self.x]))
        self.assertFalse(self.right(self.paper[:2] + self.paper[3:], [MAIN]))

    def test_put_behind(self):
        for number in range(3):
            mixed = list(self.paper)
            mixed[number], mixed[number + 1] = mixed[number + 1], mixed[number]
            self.assertFalse(self.right(mixed))

    def test_a_head_twice(self):
        self.assertFalse(self.right(self.paper + self.paper[-1:]))
        self.assertFalse(self.right(self.paper[:1] + self.paper))
        again = (self.p, 3, [MAIN, self.y, self.y])
        self.assertFalse(self.right(self.paper + [again]))
        self.assertTrue(self.right(self.paper[:2] + [again], [self.y]))

    def test_a_head_may_be_granted(self):
        self.assertTrue(self.right(self.paper, [instance[0] for instance in self.paper]))

    def change(self, instance):
        return self.right(self.paper[:3] + [instance])

    def test_another_row(self):
        for row in (-2, -1, 0, 1, 3, 4, 5, 400):
            self.assertFalse(self.change((self.y, row, [MAIN, self.x, self.p])))
        self.assertFalse(self.right([(MAIN, 0, [])]))
        self.assertFalse(self.right([(MAIN, -2, [])]))

    def test_another_head(self):
        for head in (("holds", local("z"), (0, ())), ("holds", local("x"), (0, ())), ("reach", "main", (0,))):
            self.assertFalse(self.change((head, 2, [MAIN, self.x, self.p])))

    def test_other_uses(self):
        for uses in ([], [MAIN], [MAIN, self.x], [MAIN, self.p], [self.x, self.p], [MAIN, self.x, self.p, self.p],
                     [MAIN, self.x, self.p, self.x], [MAIN, MAIN, self.x, self.p]):
            self.assertFalse(self.change((self.y, 2, uses)))
        self.assertFalse(self.right(self.paper[:2] + [(self.p, 1, [MAIN, self.x])]))
        self.assertFalse(self.right([(MAIN, -1, [MAIN])], [MAIN]))
        self.assertFalse(self.right([(self.x, 0, [])], [MAIN]))

    def test_uses_in_another_order(self):
        for uses in ([MAIN, self.p, self.x], [self.x, MAIN, self.p], [self.p, self.x, MAIN]):
            self.assertFalse(self.change((self.y, 2, uses)))

    def test_at_another_fineness(self):
        program = read_program("func f\nrow x\nend\nmain\nfunc f f\ndo x f\nend")
        paper = Told(program, 1).paper(("holds", local("x", "f", (2,)), (0, (2,))))
        self.assertTrue(is_paper(program, 1, paper, []))
        self.assertTrue(is_paper(program, 2, paper, []))
        self.assertFalse(is_paper(program, 0, paper, []))

    def test_what_is_handed_in_stays_as_it_was(self):
        granted = [self.y, MAIN]
        before = [(head, row, list(uses)) for head, row, uses in self.paper]
        self.right(self.paper, granted)
        is_paper(self.program, 0, self.paper, granted)
        self.assertEqual(self.paper, before)
        self.assertEqual(granted, [self.y, MAIN])

    def test_drawn_papers_mixed_up(self):
        for seed in range(40):
            chance = random.Random(seed)
            program = read_program(drawn_text(seed))
            told = Told(program, seed % 3)
            paper = max((told.paper(fact) for fact in told.facts()), key=len)
            self.assertTrue(is_paper(program, seed % 3, paper, []))
            place = chance.randrange(len(paper))
            used = any(paper[place][0] in instance[2] for instance in paper)
            less = paper[:place] + paper[place + 1:]
            self.assertEqual(is_paper(program, seed % 3, less, []), not used)
            self.assertTrue(is_paper(program, seed % 3, less, [paper[place][0]]))
            wrong = list(paper)
            head, row, uses = paper[place]
            wrong[place] = (head, row + 1, uses)
            self.assertFalse(is_paper(program, seed % 3, wrong, []))
            self.assertEqual(is_paper(program, seed % 3, paper[::-1], []), len(paper) == 1)


class StandingTest(unittest.TestCase):
    def test_by_hand(self):
        text = ("kind a fields p\nfunc f x keeps k\nnew y a\nput y p x\nrow z\npush z y\npush z w\nfresh m a\n"
                "place m p z\nrest\nend\nmain\nrow r\nfunc g f r\ndo v g r\nend")
        machine = Machine(read_program(text), [], 99)
        self.assertEqual(standing(machine, 0), [MAIN])
        for number in range(10):
            machine.step()
        for fineness, c in ((0, ()), (1, (10,)), (2, (10,)), (7, (10,))):
            self.assertEqual(standing(machine, fineness), sorted([
                MAIN, ("reach", "f", c), ("goes", 10, (), "f", c),
                ("holds", local("r"), (8, ())), ("holds", local("g"), (9, ())),
                ("holds", local("x", "f", c), (8, ())), ("holds", local("k", "f", c), (8, ())),
                ("holds", local("y", "f", c), (0, c)), ("holds", local("z", "f", c), (2, c)),
                ("holds", local("m.p", "f", c), (2, c)),
                ("holds", ("field", 0, c, "p"), (8, ())), ("holds", ("each", 2, c), (0, c)),
                ("holds", ("kept", 9, (), "k"), (8, ()))]))

    def test_where_main_is_over_things_stand(self):
        machine = Machine(read_program("main\nrow x\npush x x\nend"), [], 99)
        while machine.step():
            pass
        self.assertEqual(standing(machine, 0), [("holds", ("each", 0, ()), (0, ()))])

    def test_calls_within_calls(self):
        text = "func f f\nrow x\ndo y f f\nend\nmain\nfunc f f\ndo y f f\nend"
        machine = Machine(read_program(text), [], 8)
        while machine.end() is None:
            machine.step()
        facts = standing(machine, 9)
        for calls in ((3,), (3, 1), (3, 1, 1)):
            self.assertIn(("reach", "f", calls), facts)
            self.assertIn(("holds", local("x", "f", calls), (0, calls)), facts)
        self.assertIn(("goes", 1, (3, 1), "f", (3, 1, 1)), facts)
        self.assertIn(("goes", 1, (3,), "f", (3, 1)), facts)
        self.assertIn(("goes", 3, (), "f", (3,)), facts)
        self.assertIn(("goes", 1, (3, 1), "f", (1, 1)), standing(machine, 2))
        self.assertIn(("goes", 1, (1,), "f", (1,)), standing(machine, 1))
        self.assertEqual([fact for fact in standing(machine, 0) if fact[0] != "holds"],
                         [("goes", 1, (), "f", ()), ("goes", 3, (), "f", ()), ("reach", "f", ()), MAIN])

    def test_a_things_calls_are_those_of_the_call_that_made_it(self):
        text = "func f\nrow x\ngive x\nend\nfunc g k\ndo x k\ngive x\nend\nmain\nfunc f f\nfunc g g\ndo y g f\nrest\nend"
        machine = Machine(read_program(text), [], 99)
        for number in range(7):
            machine.step()
        self.assertIn(("holds", local("y"), (0, (6, 2))), standing(machine, 2))
        self.assertIn(("holds", local("y"), (0, (2,))), standing(machine, 1))
        self.assertIn(("holds", local("y"), (0, ())), standing(machine, 0))

    def test_marks_and_nones_are_no_facts(self):
        machine = Machine(read_program("kind a fields p\nmain\nfresh x a\nplace x p x\nnew y a\nput y p x\nrest\nend"), [], 9)
        for number in range(4):
            machine.step()
        self.assertEqual(standing(machine, 0), [("holds", local("y"), (2, ())), MAIN])

    def test_all_that_stands_is_among_the_told_facts(self):
        for seed in range(80):
            program = read_program(drawn_text(seed, wild=0.05))
            told = [set(Told(program, fineness).facts()) for fineness in (0, 1, 2)]
            machine = Machine(program, drawn_inputs(seed), 150)
            going = True
            while going:
                for fineness in (0, 1, 2):
                    facts = standing(machine, fineness)
                    self.assertEqual(facts, sorted(set(facts)))
                    self.assertLessEqual(set(facts), told[fineness])
                going = machine.step()

    def test_told_lists_are_the_askers_own(self):
        machine = Machine(read_program("main\nrow x\nrest\nend"), [], 9)
        machine.step()
        facts = standing(machine, 1)
        standing(machine, 1).clear()
        self.assertEqual(standing(machine, 1), facts)
        self.assertEqual(len(facts), 2)


if __name__ == "__main__":
    unittest.main()
