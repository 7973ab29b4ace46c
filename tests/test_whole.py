"""What the document promises over the whole program, at programs and runs that are drawn."""

import random
import unittest

from drawn import Draw, drawn_facts, drawn_inputs, drawn_text, tame_text
from runs import Watched, reached_things, seen_at_each_step

from pointsure.apart import never_alike
from pointsure.changer import changed_by, chosen
from pointsure.checker import is_closed, is_paper, standing
from pointsure.demand import asked, part_of, want_of
from pointsure.edits import row_otherwise
from pointsure.errors import NoProgram, NoRow, TooGreat
from pointsure.escapes import out_of, stays_by
from pointsure.fineness import leads
from pointsure.keeper import Keeper
from pointsure.machine import Machine
from pointsure.reader import read_program
from pointsure.solver import Told


def programs(many):
    """Tame ones and wild ones by turns."""
    for seed in range(many):
        yield seed, read_program(tame_text(seed, 9) if seed % 3 else drawn_text(seed))


def changed_program(program):
    facts = Told(program).facts()
    return changed_by(program, facts, chosen(program, facts))


class WholeTest(unittest.TestCase):
    def check_covered(self, program, seed, fineness, facts):
        """All that stands at each step is among the facts; how much was seen."""
        known = set(facts)
        seen = 0
        for inputs in (drawn_inputs(seed), [1, 0] * 6):
            machine = Machine(program, inputs, 60)
            while True:
                told = standing(machine, fineness)
                self.assertLessEqual(set(told), known)
                seen += len(told)
                if not machine.step():
                    break
        return seen

    def test_closed_facts_cover_every_run(self):
        seen = 0
        for seed, program in programs(45):
            for fineness in (0, 1, 2):
                told = Told(program, fineness)
                facts = told.facts()
                self.assertTrue(is_closed(program, fineness, facts))
                seen += self.check_covered(program, seed, fineness, facts)
                for fact in facts[seed % 11::11]:
                    self.assertTrue(is_paper(program, fineness, told.paper(fact), []))
                more = Told(program, fineness, drawn_facts(seed, program, fineness, 3)).facts()
                self.assertTrue(is_closed(program, fineness, more))
                self.assertLessEqual(set(facts), set(more))
        self.assertGreater(seen, 10000)

    def test_of_a_changed_program(self):
        for seed, program in programs(45):
            changed = changed_program(program)
            for fineness in (0, 1):
                facts = Told(changed, fineness).facts()
                self.assertTrue(is_closed(changed, fineness, facts))
                self.check_covered(changed, seed, fineness, facts)
            # Changed once more by what is told of it then, it still does alike.
            again = changed_program(changed)
            for inputs in ([], drawn_inputs(seed), [1] * 8):
                seen = seen_at_each_step(program, inputs, 100)
                self.assertEqual(seen, seen_at_each_step(changed, inputs, 100))
                self.assertEqual(seen, seen_at_each_step(again, inputs, 100))

    def test_with_any_fuel(self):
        for seed, program in programs(12):
            changed = changed_program(program)
            for fuel in range(0, 60, 7):
                self.assertEqual(seen_at_each_step(program, drawn_inputs(seed), fuel),
                                 seen_at_each_step(changed, drawn_inputs(seed), fuel))

    def test_of_a_program_with_a_row_otherwise(self):
        done = 0
        for seed, program in programs(24):
            keeper = Keeper(program, seed % 2)
            draw = Draw(seed)
            draw.text()
            for turn in range(4):
                number = draw.chance.randrange(program.many_rows())
                before, facts = keeper.stands(), keeper.facts()
                words = draw.plain_row()
                try:
                    stayed, gone, come = keeper.put_otherwise(number, words)
                except (NoRow, NoProgram, TooGreat):
                    self.assertEqual((keeper.stands().shown(), keeper.facts()), (before.shown(), facts))
                    continue
                done += 1
                now = Told(row_otherwise(before, number, words), seed % 2).facts()
                self.assertEqual(keeper.facts(), now)
                self.assertEqual(stayed, Told(row_otherwise(before, number, ["rest"]), seed % 2).facts())
                self.assertEqual(sorted(set(facts) - set(gone) | set(come)), now)
                self.assertFalse(set(gone) & set(now) or set(come) & set(facts) or set(stayed) - set(facts) & set(now))
            self.check_covered(keeper.stands(), seed, seed % 2, keeper.facts())
        self.assertGreater(done, 30)

    def test_of_a_want(self):
        for seed, program in programs(24):
            for fineness in (0, 1, 2):
                facts = Told(program, fineness).facts()
                wants = sorted({want_of(fact) for fact in facts})
                for want in random.Random(seed).sample(wants, min(2, len(wants))):
                    part = set(part_of(program, want))
                    self.assertEqual(asked(program, fineness, want), [fact for fact in facts if want_of(fact) in part])

    def test_of_a_finer_look(self):
        for seed, program in programs(30):
            told = [Told(program, fineness).facts() for fineness in (0, 1, 2)]
            for coarse in (0, 1, 2):
                more = Told(program, coarse, drawn_facts(seed, program, coarse, 3)).facts()
                for fine in range(coarse, 3):
                    self.assertTrue(leads(told[fine], told[coarse], coarse))
                    self.assertTrue(leads(told[fine], more, coarse))

    def test_what_stays_within_and_what_is_never_alike(self):
        seen = 0
        for seed, program in programs(40):
            for one in (program, changed_program(program)):
                facts = Told(one).facts()
                stays = {body: stays_by(one, body, out_of(one, facts, body)) for body in one.bodies()}
                watched = Watched(one, drawn_inputs(seed), 60)
                while watched.step():
                    reached = reached_things(watched.machine)
                    for number, row, body in watched.things_of_calls_over():
                        if body != "main" and row in stays[body]:
                            seen += 1
                            self.assertNotIn(number, reached)
                for body, row, pairs in watched.machine.calls():
                    for x, value in pairs:
                        for y, other in pairs:
                            if value == other and value[0] == "thing":
                                self.assertFalse(never_alike(facts, ("local", body, (), x), ("local", body, (), y)))
        self.assertGreater(seen, 100)


if __name__ == "__main__":
    unittest.main()
