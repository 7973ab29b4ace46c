import random
import unittest

from drawn import drawn_facts, drawn_inputs, drawn_text, tame_text
from runs import Watched, reached_things

from pointsure.escapes import is_out, out_of, stays_by
from pointsure.reader import read_program
from pointsure.solver import Told

TEXT = """kind a fields p
func made
new x a
new y a
put x p y
row z
push z x
give x
end
func comes one keeps two
new x a
put one p x
row y
push two y
row z
end
method a get
new x a
row y
put self p x
func z keeps y
push y z
end
func keeps keeps k
end
main
func f made
do x f
row l
func g comes l
new q a
do y g q
ask y q get
end"""
# By hand: what each making row is.
MADE = {"made": [0, 1, 3], "comes": [6, 8, 10], "a.get": [11, 12, 14], "main": [16, 18, 19, 20]}
EVERY_MAKER = sorted(sum(MADE.values(), []))


def others(body):
    return [number for number in EVERY_MAKER if number not in MADE[body]]


def plain_out(program, facts, body):
    """Point 26 by rounds over all facts."""
    head = {"params": [], "method": "." in body}
    for row in program.shown().split("\n"):
        words = row.split(" ")
        if words[0] == "method" and ".".join(words[1:3]) == body:
            head["params"] = words[3:] + ["self"]
        if words[0] == "func" and words[1] == body:
            head["params"] = head["params"] or words[2:]
    if not head["method"] and body != "main":
        if "keeps" in head["params"]:
            head["params"].remove("keeps")
    makers = [n for n in range(program.many_rows()) if program.row_words(n)[0] in ("new", "row", "func")]
    out = {n for n in makers if program.row_body(n) != body}
    holds = [(fact[1], fact[2][0]) for fact in facts if fact[0] == "holds"]
    out |= {place for name, place in holds if name[:2] == ("given", body)}
    out |= {place for name, place in holds if name[:2] == ("local", body) and name[3] in head["params"]}
    while True:
        more = {place for name, place in holds if name[0] in ("field", "each", "kept") and name[1] in out} - out
        if not more:
            return sorted(out)
        out |= more


class OutTest(unittest.TestCase):
    def setUp(self):
        self.program = read_program(TEXT)
        self.facts = Told(self.program).facts()

    def test_what_is_given_and_what_it_leads_to(self):
        self.assertEqual(out_of(self.program, self.facts, "made"), sorted([0, 1] + others("made")))
        self.assertEqual(stays_by(self.program, "made", out_of(self.program, self.facts, "made")), [3])

    def test_parameters_and_kept_names(self):
        self.assertEqual(out_of(self.program, self.facts, "comes"), sorted([6, 8] + others("comes")))
        self.assertEqual(stays_by(self.program, "comes", out_of(self.program, self.facts, "comes")), [10])

    def test_self(self):
        self.assertEqual(out_of(self.program, self.facts, "a.get"), sorted([11] + others("a.get")))
        self.assertEqual(stays_by(self.program, "a.get", out_of(self.program, self.facts, "a.get")), [12, 14])

    def test_main(self):
        out = out_of(self.program, self.facts, "main")
        # What main made is handed on, so it is a parameter's, but of another body.
        self.assertEqual(out, others("main"))
        self.assertEqual(stays_by(self.program, "main", out), MADE["main"])

    def test_a_body_that_is_not_called(self):
        self.assertEqual(out_of(self.program, self.facts, "keeps"), EVERY_MAKER)
        self.assertEqual(stays_by(self.program, "keeps", EVERY_MAKER), [])

    def test_without_facts(self):
        for body in MADE:
            self.assertEqual(out_of(self.program, [], body), others(body))

    def check_added(self, body, fact, place):
        out = out_of(self.program, [fact], body)
        self.assertEqual(out, sorted(others(body) + ([place] if place in MADE[body] else [])))

    def test_each_name_by_itself(self):
        for body, name in (("made", ("given", "made", ())), ("comes", ("local", "comes", (), "one")),
                           ("comes", ("local", "comes", (), "two")), ("a.get", ("local", "a.get", (), "self")),
                           ("a.get", ("given", "a.get", ())), ("main", ("given", "main", ()))):
            place = MADE[body][1]
            self.check_added(body, ("holds", name, (place, ())), place)
            other = "made" if body != "made" else "main"
            self.assertEqual(out_of(self.program, [("holds", name, (place, ()))], other), others(other))

    def test_names_that_do_not_matter(self):
        for name in (("local", "comes", (), "x"), ("local", "comes", (), "self"), ("local", "comes", (), "one.p"),
                     ("local", "main", (), "one"), ("given", "made", ()), ("field", 8, (), "p"), ("each", 8, ())):
            self.assertEqual(out_of(self.program, [("holds", name, (6, ()))], "comes"), others("comes"))
        self.assertEqual(out_of(self.program, [("reach", "comes", ()), ("goes", 21, (), "comes", ())], "comes"),
                         others("comes"))

    def test_what_places_lead_to(self):
        for name in (("field", 20, (), "p"), ("each", 18, ()), ("kept", 19, (), "two")):
            self.assertEqual(out_of(self.program, [("holds", name, (6, ()))], "comes"), sorted(others("comes") + [6]))
        chain = [("holds", ("each", 18, ()), (8, ())), ("holds", ("each", 8, ()), (10, ())),
                 ("holds", ("each", 10, ()), (6, ())), ("holds", ("field", 6, (), "p"), (6, ()))]
        for facts in (chain, chain[::-1]):
            self.assertEqual(out_of(self.program, facts, "comes"), EVERY_MAKER)
        self.assertEqual(out_of(self.program, chain[1:], "comes"), others("comes"))

    def test_drawn_ones(self):
        for seed in range(80):
            program = read_program(drawn_text(seed))
            for facts in (Told(program).facts(), drawn_facts(seed, program, 0, 40)):
                before = list(facts)
                for body in program.bodies():
                    out = out_of(program, facts, body)
                    self.assertEqual(out, plain_out(program, facts, body))
                    self.assertTrue(is_out(program, facts, body, out))
                    mixed = out + out[:2]
                    random.Random(seed).shuffle(mixed)
                    self.assertTrue(is_out(program, facts, body, mixed))
                self.assertEqual(facts, before)


class IsOutTest(unittest.TestCase):
    def setUp(self):
        self.program = read_program(TEXT)
        self.facts = Told(self.program).facts()

    def test_a_place_too_few(self):
        for body in MADE:
            out = out_of(self.program, self.facts, body)
            for place in out:
                self.assertFalse(is_out(self.program, self.facts, body, [one for one in out if one != place]))

    def test_greater_ones(self):
        for body in MADE:
            self.assertTrue(is_out(self.program, self.facts, body, EVERY_MAKER))
            self.assertTrue(is_out(self.program, self.facts, body, EVERY_MAKER[::-1] + EVERY_MAKER))
        out = out_of(self.program, self.facts, "a.get")
        # The row 12 holds the function thing 14, which keeps it.
        self.assertFalse(is_out(self.program, self.facts, "a.get", out + [12]))
        self.assertFalse(is_out(self.program, self.facts, "a.get", [14] + out))
        self.assertTrue(is_out(self.program, self.facts, "a.get", [14] + out + [12]))
        self.assertTrue(is_out(self.program, self.facts, "made", [3] + out_of(self.program, self.facts, "made")))

    def test_none(self):
        self.assertFalse(is_out(self.program, self.facts, "made", []))
        self.assertTrue(is_out(read_program("main\nrow x\nend"), [], "main", []))

    def test_what_is_handed_in_stays_as_it_was(self):
        rows, facts = [3, 0, 3], list(self.facts)
        is_out(self.program, facts, "made", rows)
        stays_by(self.program, "made", rows)
        self.assertEqual(rows, [3, 0, 3])
        self.assertEqual(facts, self.facts)


class StaysTest(unittest.TestCase):
    def test_of_any_list(self):
        program = read_program(TEXT)
        self.assertEqual(stays_by(program, "made", []), [0, 1, 3])
        self.assertEqual(stays_by(program, "made", [1]), [0, 3])
        self.assertEqual(stays_by(program, "made", [3, 1, 3, 0]), [])
        self.assertEqual(stays_by(program, "made", [6, 8, 18]), [0, 1, 3])
        self.assertEqual(stays_by(program, "main", [18]), [16, 19, 20])
        self.assertEqual(stays_by(program, "keeps", []), [])

    def test_rows_within_blocks(self):
        program = read_program("main\nif choose\nrow x\nelse\nwhile choose\nrow y\ncopy y x\nend\nend\nend")
        self.assertEqual(stays_by(program, "main", []), [1, 3])

    def test_told_lists_are_the_askers_own(self):
        program = read_program(TEXT)
        stays_by(program, "made", []).clear()
        out_of(program, [], "made").clear()
        self.assertEqual(stays_by(program, "made", []), [0, 1, 3])
        self.assertEqual(out_of(program, [], "made"), others("made"))


class RunsTest(unittest.TestCase):
    def check_run(self, program, inputs, fuel, stays):
        """How many things that stay within their bodies were seen behind their calls, and how many others reached."""
        watched = Watched(program, inputs, fuel)
        seen = 0
        reached_others = 0
        while watched.step():
            reached = reached_things(watched.machine)
            for number, row, body in watched.things_of_calls_over():
                if body == "main":
                    continue
                if row in stays[body]:
                    seen += 1
                    self.assertNotIn(number, reached)
                else:
                    reached_others += number in reached
        return seen, reached_others

    def test_what_stays_within_is_not_reached_behind_the_call(self):
        seen = reached_others = 0
        for seed in range(120):
            program = read_program(tame_text(seed))
            facts = Told(program).facts()
            stays = {body: stays_by(program, body, out_of(program, facts, body)) for body in program.bodies()}
            one, other = self.check_run(program, drawn_inputs(seed), 120, stays)
            seen += one
            reached_others += other
        self.assertGreater(seen, 100)
        self.assertGreater(reached_others, 100)

    def test_by_other_closed_facts(self):
        for seed in range(40):
            program = read_program(tame_text(seed))
            facts = Told(program, 0, drawn_facts(seed, program, 0, 5)).facts()
            stays = {body: stays_by(program, body, out_of(program, facts, body)) for body in program.bodies()}
            self.check_run(program, drawn_inputs(seed), 80, stays)

    def test_reached_by_each_way(self):
        program = read_program(
            "kind a fields p\nfunc g keeps k\nend\nmain\nnew x a\nnew y a\nput x p y\nrow l\nnew y a\npush l y\nnew y a\n"
            "func f g y\nnew y a\nfresh m a\nplace m p y\nrow y\ncopy y n\nrest\nend")
        watched = Watched(program, [], 13)
        while watched.step():
            pass
        # All but the last row, which y was alone: by names, a field, a member, a kept name, an own field.
        self.assertEqual(len(watched.machine.things()), 8)
        self.assertEqual(reached_things(watched.machine), set(range(7)))

    def test_by_hand(self):
        program = read_program(TEXT)
        facts = Told(program).facts()
        stays = {body: stays_by(program, body, out_of(program, facts, body)) for body in MADE}
        self.assertEqual(stays["a.get"], [12, 14])
        seen, reached_others = self.check_run(program, [], 99, stays)
        self.assertGreater(seen, 0)
        self.assertGreater(reached_others, 0)


if __name__ == "__main__":
    unittest.main()
