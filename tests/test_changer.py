import random
import unittest

from drawn import drawn_facts, drawn_inputs, drawn_text, tame_text
from plain import plain_changed_rows, plain_chosen
from runs import seen_at_each_step

from pointsure.changer import changed_by, chosen
from pointsure.changes import is_allowed
from pointsure.errors import NoChange, PointError
from pointsure.reader import read_program
from pointsure.solver import Told

TEXT = """kind a fields p q
kind b of a
method a m one
give one
end
method b m one
end
func f x
new s b
put s q x
take y s q
tell s
while some s
put x p y
end
give y
end
func never
new s a
put s p s
ask x s m s
end
main
new v a
new w b
func g f
do x g v
put w p v
ask y w m w
ask y u m w
straight y w b m w
new s a
if choose
put s p v
else
take y s p
end
tell s
put v p w
end"""
# By hand; never is not called, the name u holds nothing.
ROWS = {1: "new s b", 2: "put s q x", 3: "take y s q", 6: "put x p y", 9: "put s p s", 11: "new v a", 15: "put w p v",
        16: "ask y w m w", 17: "ask y u m w", 19: "new s a", 21: "put s p v", 22: "take y s p", 24: "put v p w"}
CHOSEN = [(1, "apart", ""), (6, "unread", ""), (15, "unread", ""), (16, "straight", "b"), (19, "apart", ""),
          (24, "unread", "")]
CHANGED = TEXT.replace("new s b\nput s q x\ntake y s q", "fresh s b\nplace s q x\nown y s q", 1)
CHANGED = CHANGED.replace("put x p y", "check x p", 1).replace("put w p v", "check w p", 1)
CHANGED = CHANGED.replace("ask y w m w", "straight y w b m w", 1).replace("put v p w", "check v p", 1)
CHANGED = CHANGED.replace("new s a\nif choose\nput s p v\nelse\ntake y s p", "fresh s a\nif choose\nplace s p v\nelse\nown y s p", 1)


def told_facts(program):
    return Told(program).facts()


class ChosenTest(unittest.TestCase):
    def setUp(self):
        self.program = read_program(TEXT)
        self.facts = told_facts(self.program)

    def test_by_hand(self):
        for number, row in ROWS.items():
            self.assertEqual(" ".join(self.program.row_words(number)), row)
        self.assertEqual(chosen(self.program, self.facts), CHOSEN)
        self.assertEqual(chosen(self.program, self.facts[::-1] + self.facts), CHOSEN)

    def test_an_unread_at_a_row_that_a_chosen_apart_changes(self):
        program = read_program("kind a fields p q\nmain\nnew x a\nput x p y\nput x q y\nput y q x\ntake z x q\nend")
        facts = told_facts(program)
        # Here x is put into a field, so there is no apart.
        self.assertEqual(chosen(program, facts), [(1, "unread", ""), (3, "unread", "")])
        program = read_program("kind a fields p q\nmain\nnew x a\nput x p y\nput x q y\ntake z x q\nend")
        facts = told_facts(program)
        self.assertTrue(is_allowed(program, facts, (1, "unread", "")))
        self.assertEqual(chosen(program, facts), [(0, "apart", "")])

    def test_a_straight_whose_y_holds_no_record(self):
        for rows, wanted in (([], []), (["row y"], []), (["func y f"], []), (["fresh y a"], []),
                             (["row y", "new y a"], [(2, "straight", "a")]), (["new y b"], [(1, "straight", "a")]),
                             (["new y c"], []), (["new y a", "new y c"], [])):
            program = read_program("kind a\nkind b of a\nkind c\nmethod a m\nend\nfunc f\nend\nmain\n"
                                   + "\n".join(rows + ["ask z y m"]) + "\nend")
            self.assertEqual(chosen(program, told_facts(program)), wanted)
            if wanted == [] and "new y c" not in rows:
                self.assertTrue(is_allowed(program, told_facts(program), (len(rows), "straight", "a")))

    def test_nothing_reached(self):
        self.assertEqual(chosen(self.program, []), [])
        self.assertEqual(chosen(read_program("main\nend"), [("reach", "main", ())]), [])

    def test_sorted(self):
        for seed in range(10):
            program = read_program(tame_text(seed))
            told = chosen(program, told_facts(program))
            self.assertEqual(told, sorted(set(told)))

    def test_drawn_ones(self):
        counts = {"straight": 0, "apart": 0, "unread": 0}
        for seed in range(50):
            program = read_program((tame_text if seed % 2 else drawn_text)(seed))
            for facts in (told_facts(program), drawn_facts(seed, program, 0, 70)):
                before = list(facts)
                told = chosen(program, facts)
                self.assertEqual(told, plain_chosen(program, facts))
                self.assertEqual(facts, before)
                for change in told:
                    counts[change[1]] += 1
        for word in counts:
            self.assertGreater(counts[word], 50)


class ChangedTest(unittest.TestCase):
    def setUp(self):
        self.program = read_program(TEXT)
        self.facts = told_facts(self.program)

    def check(self, program, facts, changes):
        """The rows that are changed, and all others as they were, also those without a number."""
        handed, before = list(changes), list(facts)
        text = program.shown()
        changed = changed_by(program, facts, changes)
        self.assertEqual((changes, facts, program.shown()), (handed, before, text))
        wanted = {}
        for change in changes:
            wanted.update(plain_changed_rows(program, change))
        self.assertEqual(changed.many_rows(), program.many_rows())
        for number in range(program.many_rows()):
            self.assertEqual(changed.row_words(number), wanted.get(number, program.row_words(number)))
            self.assertEqual(changed.row_body(number), program.row_body(number))
        lines, others = text.split("\n"), changed.shown().split("\n")
        self.assertEqual(len(lines), len(others))
        self.assertEqual(sum(one != other for one, other in zip(lines, others)), len(wanted))
        return changed

    def test_by_hand(self):
        self.assertEqual(changed_by(self.program, self.facts, CHOSEN).shown(), CHANGED)
        self.assertEqual(changed_by(self.program, self.facts, CHOSEN[::-1]).shown(), CHANGED)
        self.assertEqual(self.program.shown(), TEXT)
        self.check(self.program, self.facts, CHOSEN)

    def test_each_by_itself(self):
        for change in CHOSEN + [(17, "straight", "a"), (17, "straight", "b")]:
            self.check(self.program, self.facts, [change])

    def test_rows_ahead_of_the_making(self):
        program = read_program("kind a fields p\nmain\nwhile choose\nif some x\nput x p y\ntake z x p\nend\nnew x a\nend\nend")
        changed = self.check(program, told_facts(program), [(4, "apart", "")])
        self.assertEqual(changed.row_words(2), ["place", "x", "p", "y"])
        self.assertEqual(changed.row_words(3), ["own", "z", "x", "p"])
        self.assertEqual(chosen(program, told_facts(program)), [(4, "apart", "")])

    def test_none(self):
        self.assertEqual(changed_by(self.program, self.facts, []).shown(), TEXT)
        self.assertEqual(changed_by(self.program, [], []).shown(), TEXT)

    def check_refused(self, program, facts, changes, refused):
        before = list(changes)
        with self.assertRaises(NoChange) as caught:
            changed_by(program, facts, changes)
        self.assertEqual(caught.exception.change, refused)
        self.assertIs(type(caught.exception), NoChange)
        self.assertIsInstance(caught.exception, PointError)
        self.assertEqual(changes, before)

    def test_not_allowed(self):
        for change in ((0, "apart", ""), (99, "apart", ""), (-1, "unread", ""), (16, "straight", "a"), (1, "apart", "b"),
                       (1, "fresh", ""), (7, "apart", ""), (9, "unread", ""), (2, "unread", "")):
            self.check_refused(self.program, self.facts, [change], change)
            self.check_refused(self.program, self.facts, CHOSEN + [change], change)
            self.check_refused(self.program, self.facts, [change] + CHOSEN, change)
            self.check_refused(self.program, self.facts, CHOSEN[:2] + [change, (50, "any", "")] + CHOSEN[2:], change)
        self.check_refused(self.program, [], [CHOSEN[0]], CHOSEN[0])

    def test_the_same_change_twice(self):
        for change in CHOSEN:
            self.check_refused(self.program, self.facts, [change, change], change)
            self.check_refused(self.program, self.facts, CHOSEN + [change], change)
        # The first one that is refused is told, not the first row.
        self.check_refused(self.program, self.facts, [CHOSEN[3], CHOSEN[2], CHOSEN[3], CHOSEN[2]], CHOSEN[3])
        self.check_refused(self.program, self.facts, [CHOSEN[3], CHOSEN[3], (0, "any", "")], CHOSEN[3])

    def test_two_straights_of_one_row(self):
        one, other = (17, "straight", "a"), (17, "straight", "b")
        self.check_refused(self.program, self.facts, [one, other], other)
        self.check_refused(self.program, self.facts, [other, one], one)

    def test_apart_and_unread_of_one_row(self):
        program = read_program("kind a fields p q\nmain\nnew x a\nput x p y\nput x q y\ntake z x q\nend")
        facts = told_facts(program)
        apart, unread = (0, "apart", ""), (1, "unread", "")
        self.check_refused(program, facts, [apart, unread], unread)
        self.check_refused(program, facts, [unread, apart], apart)
        self.check(program, facts, [apart])
        self.check(program, facts, [unread])

    def test_by_the_facts_of_the_program_as_it_is(self):
        # Behind the first change alone no row would take p of x any more; but it is asked of the program as it is.
        program = read_program("kind a fields p\nmain\nnew x a\nput w p x\ntake z x p\nend")
        facts = [("reach", "main", ()), ("holds", ("local", "main", (), "x"), (0, ())),
                 ("holds", ("local", "main", (), "w"), (0, ()))]
        self.check_refused(program, facts, [(1, "unread", "")], (1, "unread", ""))
        text = "kind a fields p\nmain\nnew x a\ntake z x p\nput y p y\nend"
        program = read_program(text)
        facts = facts[:2] + [("holds", ("local", "main", (), "y"), (0, ()))]
        self.check_refused(program, facts, [(0, "apart", ""), (2, "unread", "")], (2, "unread", ""))

    def test_drawn_parts_of_the_chosen_ones(self):
        for seed in range(30):
            program = read_program(tame_text(seed))
            facts = told_facts(program)
            changes = chosen(program, facts)
            random.Random(seed).shuffle(changes)
            self.check(program, facts, changes)
            self.check(program, facts, changes[::2])


class RunsTest(unittest.TestCase):
    def check_alike(self, program, changed, inputs, fuel):
        seen = seen_at_each_step(program, inputs, fuel)
        self.assertEqual(seen, seen_at_each_step(changed, inputs, fuel))
        return seen[-1][2][0]

    def test_by_hand(self):
        program = read_program(TEXT)
        changed = changed_by(program, told_facts(program), CHOSEN)
        for inputs in ([], [0], [1], [1, 1, 1]):
            for fuel in (0, 1, 2, 3, 5, 8, 13, 21, 34, 1000):
                self.check_alike(program, changed, inputs, fuel)

    def test_faults(self):
        for rows in ("take y x p\nnew x a", "put x p y\nnew x a", "new x a\ntake y x any", "new x a\nput x any y\nrest",
                     "put y p x", "row y\nput y p z", "new y b\nput y any z", "fresh y a\nput y p z", "new y b\nask z y m y",
                     "new y c\nask z y m\ncopy y z\nask z y m", "row y\nask z y m", "fresh y a\nask z y m\nnew y a",
                     "while choose\nnew x a\ntake z x p\nput x p w\nrow w\nend", "ask x y m", "new y b\nask z y none"):
            program = read_program("kind a fields p\nkind b of a\nkind c\nmethod a m\ntell self\nend\nmain\n" + rows + "\nend")
            facts = told_facts(program)
            changes = chosen(program, facts)
            for part in [changes] + [[change] for change in changes]:
                changed = changed_by(program, facts, part)
                for inputs in ([], [1], [1, 1, 1]):
                    for fuel in range(9):
                        self.check_alike(program, changed, inputs, fuel)

    def test_a_mark_is_new_at_each_turn(self):
        program = read_program("kind a fields p\nmain\nrow y\nwhile choose\nnew x a\ntake z x p\ntell z\nput x p y\ntake z x p\n"
                               "tell z\ntell x\nend\nend")
        changes = chosen(program, told_facts(program))
        self.assertEqual(changes, [(2, "apart", "")])
        changed = changed_by(program, told_facts(program), changes)
        self.assertEqual(self.check_alike(program, changed, [1, 1], 99), "given")

    def test_deep_runs(self):
        program = read_program("kind a fields p q\nmethod a m\nnew x a\nput x p self\ntake y x p\nput y q self\nask z y m\nend\n"
                               "main\nnew y a\nask z y m\nend")
        changes = chosen(program, told_facts(program))
        self.assertEqual([change[1] for change in changes], ["apart", "unread", "straight", "straight"])
        changed = changed_by(program, told_facts(program), changes)
        self.assertEqual(self.check_alike(program, changed, [], 1000), "deep")
        self.assertEqual(self.check_alike(program, changed, [], 50), "dry")

    def test_drawn_ones(self):
        ends = {"given": 0, "fault": 0, "dry": 0, "deep": 0}
        for seed in range(120):
            program = read_program((tame_text if seed % 3 else drawn_text)(seed))
            facts = told_facts(program)
            if seed % 5 == 0:
                facts = Told(program, 0, drawn_facts(seed, program, 0, 5)).facts()
            changed = changed_by(program, facts, chosen(program, facts))
            for inputs, fuel in (([], 80), (drawn_inputs(seed), 500), ([1] * 9, 60), ([1, 0, 1] * 5, seed)):
                ends[self.check_alike(program, changed, inputs, fuel)] += 1
        for end in ends:
            self.assertGreater(ends[end], 1)

    def test_allowed_ones_that_are_not_chosen(self):
        for seed in range(20):
            program = read_program((tame_text if seed % 2 else drawn_text)(seed))
            facts = told_facts(program)
            asks = [n for n in range(program.many_rows()) if program.row_words(n)[0] == "ask"]
            puts = [n for n in range(program.many_rows()) if program.row_words(n)[0] == "put"]
            changes = [(n, "straight", kind) for n in asks for kind in ("tree", "leaf")] + [(n, "unread", "") for n in puts]
            for change in changes:
                if is_allowed(program, facts, change):
                    self.check_alike(program, changed_by(program, facts, [change]), drawn_inputs(seed), 100)


if __name__ == "__main__":
    unittest.main()
