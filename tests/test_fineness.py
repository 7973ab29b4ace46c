import unittest

from drawn import drawn_text

from pointsure.fineness import cut_fact, cut_facts, leads
from pointsure.reader import read_program
from pointsure.solver import Told

LONG = (1, 2, 3)


class CutTest(unittest.TestCase):
    def test_each_form(self):
        for fineness, calls in ((0, ()), (1, (3,)), (2, (2, 3)), (3, LONG), (4, LONG), (99, LONG)):
            thing = (7, calls)
            for form in (lambda c: ("reach", "f", c), lambda c: ("goes", 5, c, "f", c),
                         lambda c: ("holds", ("local", "a.b", c, "x"), (7, c)),
                         lambda c: ("holds", ("local", "f", c, "x.y"), (7, c)),
                         lambda c: ("holds", ("given", "f", c), (7, c)),
                         lambda c: ("holds", ("field", 4, c, "p"), (7, c)),
                         lambda c: ("holds", ("each", 4, c), (7, c)),
                         lambda c: ("holds", ("kept", 4, c, "k"), (7, c))):
                self.assertEqual(cut_fact(form(LONG), fineness), form(calls))
            self.assertEqual(cut_fact(("holds", ("each", 4, ()), (7, LONG)), fineness), ("holds", ("each", 4, ()), thing))

    def test_each_of_the_calls_by_itself(self):
        self.assertEqual(cut_fact(("goes", 5, (1,), "f", (1, 5)), 1), ("goes", 5, (1,), "f", (5,)))
        self.assertEqual(cut_fact(("goes", 5, (4, 1), "f", (1,)), 1), ("goes", 5, (1,), "f", (1,)))
        self.assertEqual(cut_fact(("holds", ("each", 4, (1, 2)), (7, (3,))), 1), ("holds", ("each", 4, (2,)), (7, (3,))))

    def test_no_calls(self):
        for fact in (("reach", "main", ()), ("goes", 1, (), "f", ()), ("holds", ("given", "f", ()), (3, ()))):
            for fineness in (0, 1, 2):
                self.assertEqual(cut_fact(fact, fineness), fact)

    def test_facts_sorted_each_once(self):
        facts = [("reach", "g", (1, 2)), ("reach", "f", (3, 2)), ("reach", "g", (4, 2)), ("goes", 9, (), "f", (1, 2))]
        before = list(facts)
        self.assertEqual(cut_facts(facts, 1), [("goes", 9, (), "f", (2,)), ("reach", "f", (2,)), ("reach", "g", (2,))])
        self.assertEqual(cut_facts(facts, 2), sorted(facts))
        self.assertEqual(cut_facts(facts, 0), [("goes", 9, (), "f", ()), ("reach", "f", ()), ("reach", "g", ())])
        self.assertEqual(facts, before)
        self.assertEqual(cut_facts([], 1), [])

    def test_told_lists_are_the_askers_own(self):
        facts = [("reach", "g", ())]
        cut_facts(facts, 1).clear()
        self.assertEqual(facts, [("reach", "g", ())])


class LeadsTest(unittest.TestCase):
    def test_by_hand(self):
        one, other = ("reach", "f", (1, 2)), ("reach", "f", (2,))
        self.assertTrue(leads([one], [other], 1))
        self.assertFalse(leads([one], [other], 2))
        self.assertFalse(leads([one], [other], 0))
        self.assertTrue(leads([one, other], [other], 1))
        self.assertFalse(leads([one, ("reach", "g", ())], [other], 1))
        self.assertTrue(leads([one], [("reach", "g", ()), other], 1))

    def test_the_others_are_not_cut(self):
        self.assertFalse(leads([("reach", "f", (2,))], [("reach", "f", (1, 2))], 1))
        self.assertFalse(leads([("reach", "f", (1, 2))], [("reach", "f", (1, 2))], 1))
        self.assertTrue(leads([("reach", "f", (1, 2))], [("reach", "f", (1, 2))], 2))

    def test_none(self):
        self.assertTrue(leads([], [], 0))
        self.assertTrue(leads([], [("reach", "f", ())], 0))
        self.assertFalse(leads([("reach", "f", ())], [], 0))

    def test_what_is_handed_in_stays_as_it_was(self):
        facts, others = [("reach", "f", (1, 2))], [("reach", "f", (2,))]
        leads(facts, others, 1)
        self.assertEqual((facts, others), ([("reach", "f", (1, 2))], [("reach", "f", (2,))]))

    def test_what_is_told_finer_leads_into_what_is_told_coarser(self):
        greater = 0
        for seed in range(60):
            program = read_program(drawn_text(seed))
            told = [Told(program, fineness).facts() for fineness in (0, 1, 2)]
            for fine in (0, 1, 2):
                for coarse in range(fine + 1):
                    self.assertTrue(leads(told[fine], told[coarse], coarse))
                    self.assertLessEqual(set(cut_facts(told[fine], coarse)), set(told[coarse]))
            greater += len(cut_facts(told[2], 0)) < len(told[0])
        # Else nothing would be told by looking finer.
        self.assertGreater(greater, 0)

    def test_into_any_closed_facts(self):
        for seed in range(30):
            program = read_program(drawn_text(seed))
            more = [("holds", ("local", "main", (), "ra"), (number, ())) for number in range(program.many_rows())
                    if program.row_words(number)[0] in ("new", "row", "func")]
            self.assertTrue(leads(Told(program, 1).facts(), Told(program, 0, more).facts(), 0))


if __name__ == "__main__":
    unittest.main()
