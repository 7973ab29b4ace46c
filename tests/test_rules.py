import random
import unittest

from drawn import drawn_facts, drawn_text
from plain import plain_instances, plain_told

from pointsure.reader import read_program
from pointsure.rules import instances, lacking

MAIN = ("reach", "main", ())
FIRST = (MAIN, -1, [])

HEADS = """kind a fields p q
kind b of a fields r
kind z
func nought
end
func one x
end
func keep y keeps k l
end
method a get
end
method a set v
end
method b get
end
method z set v w
end
"""


def main_of(rows):
    """A program whose main has these rows, from number 0 on."""
    return read_program(HEADS + "main\n" + "".join(row + "\n" for row in rows) + "end")


def local(x, body="main", calls=()):
    return ("local", body, calls, x)


def holds(name, thing):
    if isinstance(name, str):
        name = local(name)
    if isinstance(thing, int):
        thing = (thing, ())
    return ("holds", name, thing)


class ItemsTest(unittest.TestCase):
    def check(self, rows, facts, wanted, fineness=0):
        """Of main reached, with these facts: the wanted instances beside the first one."""
        program = main_of(rows)
        facts = [MAIN] + facts
        told = instances(program, fineness, facts)
        self.assertEqual(told, sorted(wanted + [FIRST]))
        self.assertEqual(told, plain_instances(program, fineness, facts))
        self.assertEqual(lacking(program, fineness, facts), sorted({one[0] for one in told} - set(facts)))

    def test_the_first_one_needs_nothing(self):
        program = main_of(["row x"])
        self.assertEqual(instances(program, 0, []), [FIRST])
        self.assertEqual(lacking(program, 0, []), [MAIN])

    def test_makers(self):
        self.check(["new x a", "row x", "func y nought"], [], [
            (holds("x", 0), 0, [MAIN]), (holds("x", 1), 1, [MAIN]), (holds("y", 2), 2, [MAIN])])

    def test_func_keeps(self):
        self.check(["rest", "func x keep u v"], [holds("u", 1), holds("v", 1), holds("w", 1)], [
            (holds("x", 1), 1, [MAIN]),
            (holds(("kept", 1, (), "k"), 1), 1, [MAIN, holds("u", 1)]),
            (holds(("kept", 1, (), "l"), 1), 1, [MAIN, holds("v", 1)])])

    def test_func_keeps_one_name_twice(self):
        self.check(["func x keep u u"], [holds("u", 0)], [
            (holds("x", 0), 0, [MAIN]),
            (holds(("kept", 0, (), "k"), 0), 0, [MAIN, holds("u", 0)]),
            (holds(("kept", 0, (), "l"), 0), 0, [MAIN, holds("u", 0)])])

    def test_copy(self):
        makers = ["row m", "row n", "copy x y"]
        given = [(holds("m", 0), 0, [MAIN]), (holds("n", 1), 1, [MAIN])]
        self.check(makers, [holds("y", 0), holds("y", 1), holds("x", 0)], given + [
            (holds("x", 0), 2, [MAIN, holds("y", 0)]), (holds("x", 1), 2, [MAIN, holds("y", 1)])])

    def test_take(self):
        rows = ["new m b", "new n z", "row o", "take x y p"]
        given = [(holds("m", 0), 0, [MAIN]), (holds("n", 1), 1, [MAIN]), (holds("o", 2), 2, [MAIN])]
        field = holds(("field", 0, (), "p"), 2)
        other = holds(("field", 0, (), "q"), 2)
        self.check(rows, [field, other], given)
        self.check(rows, [holds("y", 0)], given)
        self.check(rows, [holds("y", 0), holds("y", 1), holds("y", 2), other, field], given + [
            (holds("x", 2), 3, [MAIN, holds("y", 0), field])])

    def test_take_of_a_field_that_the_kind_has_not(self):
        rows = ["new m a", "take x y r", "take x y any"]
        self.check(rows, [holds("y", 0)], [(holds("m", 0), 0, [MAIN])])

    def test_put(self):
        rows = ["new m b", "new n z", "row o", "put y p x", "put y any x"]
        given = [(holds("m", 0), 0, [MAIN]), (holds("n", 1), 1, [MAIN]), (holds("o", 2), 2, [MAIN])]
        ys = [holds("y", 0), holds("y", 1), holds("y", 2)]
        self.check(rows, ys, given)
        self.check(rows, [holds("x", 0)], given)
        self.check(rows, ys + [holds("x", 1), holds("x", 2)], given + [
            (holds(("field", 0, (), "p"), 1), 3, [MAIN, holds("y", 0), holds("x", 1)]),
            (holds(("field", 0, (), "p"), 2), 3, [MAIN, holds("y", 0), holds("x", 2)])])

    def test_put_of_a_thing_into_itself(self):
        self.check(["new x a", "put x p x"], [holds("x", 0)], [
            (holds("x", 0), 0, [MAIN]),
            (holds(("field", 0, (), "p"), 0), 1, [MAIN, holds("x", 0), holds("x", 0)])])

    def test_push_and_pull(self):
        rows = ["row m", "new n a", "push y x"]
        given = [(holds("m", 0), 0, [MAIN]), (holds("n", 1), 1, [MAIN])]
        self.check(rows, [holds("y", 0), holds("y", 1), holds("x", 1)], given + [
            (holds(("each", 0, ()), 1), 2, [MAIN, holds("y", 0), holds("x", 1)])])
        each = holds(("each", 0, ()), 1)
        self.check(["row m", "new n a", "pull x y"], [holds("y", 0), holds("y", 1), each], given + [
            (holds("x", 1), 2, [MAIN, holds("y", 0), each])])

    def test_a_fact_needed_twice_stands_twice(self):
        self.check(["row x", "push x x"], [holds("x", 0)], [
            (holds("x", 0), 0, [MAIN]),
            (holds(("each", 0, ()), 0), 1, [MAIN, holds("x", 0), holds("x", 0)])])

    def test_do(self):
        rows = ["func m nought", "func n one", "func o keep u v", "do x y w"]
        given = [(holds("m", 0), 0, [MAIN]), (holds("n", 1), 1, [MAIN]), (holds("o", 2), 2, [MAIN])]
        kept = holds(("kept", 2, (), "l"), 0)
        self.check(rows, [holds("y", 0), holds("y", 1), holds("y", 2), kept], given + [
            (("goes", 3, (), "one", ()), 3, [MAIN, holds("y", 1)]),
            (("goes", 3, (), "keep", ()), 3, [MAIN, holds("y", 2)]),
            (holds(local("l", "keep"), 0), 3, [MAIN, holds("y", 2), kept])])

    def test_do_of_what_is_no_function_thing(self):
        self.check(["new m a", "row n", "do x y", "do x y w"], [holds("y", 0), holds("y", 1)], [
            (holds("m", 0), 0, [MAIN]), (holds("n", 1), 1, [MAIN])])

    def test_ask(self):
        rows = ["new m a", "new n b", "new o z", "row q", "ask x y get", "ask x y set w"]
        given = [(holds("m", 0), 0, [MAIN]), (holds("n", 1), 1, [MAIN]), (holds("o", 2), 2, [MAIN]),
                 (holds("q", 3), 3, [MAIN])]
        ys = [holds("y", number) for number in range(4)]
        self.check(rows, ys, given + [
            (("goes", 4, (), "a.get", ()), 4, [MAIN, ys[0]]), (holds(local("self", "a.get"), 0), 4, [MAIN, ys[0]]),
            (("goes", 4, (), "b.get", ()), 4, [MAIN, ys[1]]), (holds(local("self", "b.get"), 1), 4, [MAIN, ys[1]]),
            (("goes", 5, (), "a.set", ()), 5, [MAIN, ys[0]]), (holds(local("self", "a.set"), 0), 5, [MAIN, ys[0]]),
            (("goes", 5, (), "a.set", ()), 5, [MAIN, ys[1]]), (holds(local("self", "a.set"), 1), 5, [MAIN, ys[1]])])

    def test_straight_of_a_record_of_any_kind(self):
        rows = ["new m a", "new n z", "row q", "straight x y b get", "straight x y b get w", "straight x y z set w w"]
        given = [(holds("m", 0), 0, [MAIN]), (holds("n", 1), 1, [MAIN]), (holds("q", 2), 2, [MAIN])]
        wanted = []
        for number in (0, 1):
            for row, goal in ((3, "b.get"), (5, "z.set")):
                uses = [MAIN, holds("y", number)]
                wanted.append((("goes", row, (), goal, ()), row, uses))
                wanted.append((holds(local("self", goal), number), row, uses))
        self.check(rows, [holds("y", 0), holds("y", 1), holds("y", 2)], given + wanted)

    def test_goes(self):
        rows = ["row m", "do x y w"]
        goes = ("goes", 1, (), "one", (1,))
        given = (holds("m", 0), 0, [MAIN])
        self.check(rows, [goes], [given, (("reach", "one", (1,)), 1, [MAIN, goes])], 1)
        named = holds(("given", "one", (1,)), 0)
        self.check(rows, [goes, holds("w", 0), named, holds("x", 0)], [
            given,
            (("reach", "one", (1,)), 1, [MAIN, goes]),
            (holds(local("x", "one", (1,)), 0), 1, [MAIN, goes, holds("w", 0)]),
            (holds("x", 0), 1, [MAIN, goes, named])], 1)

    def test_goes_with_other_calls_gives_none(self):
        given = (holds("m", 0), 0, [MAIN])
        for calls in ((), (2,), (1, 1), (2, 1)):
            goes = ("goes", 1, (), "one", calls)
            self.check(["row m", "do x y w"], [goes, holds("w", 0), holds(("given", "one", calls), 0)], [given], 2)

    def test_goes_of_a_body_that_is_not_reached_with_these_calls(self):
        given = (holds("m", 0), 0, [MAIN])
        self.check(["row m", "do x y w"], [("goes", 1, (1,), "one", (1,)), holds("w", 0)], [given], 1)

    def test_goes_to_a_body_with_another_number_of_parameters(self):
        given = (holds("m", 0), 0, [MAIN])
        self.check(["row m", "do x y w"], [("goes", 1, (), "nought", ()), holds(("given", "nought", ()), 0)], [given])

    def test_what_is_handed_on_twice(self):
        goes = ("goes", 1, (), "z.set", ())
        w = holds("w", 0)
        self.check(["row m", "ask x y set w w"], [goes, w], [
            (holds("m", 0), 0, [MAIN]), (("reach", "z.set", ()), 1, [MAIN, goes]),
            (holds(local("v", "z.set"), 0), 1, [MAIN, goes, w]), (holds(local("w", "z.set"), 0), 1, [MAIN, goes, w])])

    def test_give(self):
        self.check(["row x", "give x"], [holds("x", 0)], [
            (holds("x", 0), 0, [MAIN]), (holds(("given", "main", ()), 0), 1, [MAIN, holds("x", 0)])])

    def test_own_and_place(self):
        facts = [holds("w", 0), holds("y", 0), holds("y.p", 0), holds("y.q", 0)]
        self.check(["row m", "own x y p", "place y any w"], facts, [
            (holds("m", 0), 0, [MAIN]), (holds("x", 0), 1, [MAIN, holds("y.p", 0)]),
            (holds("y.any", 0), 2, [MAIN, holds("w", 0)])])

    def test_rows_that_give_none(self):
        facts = [holds("x", 9), holds("y", 9), holds("x.p", 9)]
        rows = ["fresh x a", "tell x", "rest", "check x p", "if some x", "end", "while same x y", "end", "if choose",
                "end", "new m a"]
        self.check(rows, facts[:0], [(holds("m", 7), 7, [MAIN])])
        self.check(rows, [holds("x", 7), holds("y", 7), holds("x.p", 7)], [(holds("m", 7), 7, [MAIN])])

    def test_rows_within_blocks(self):
        rows = ["if choose", "row x", "else", "while choose", "if choose", "copy y x", "end", "end", "end"]
        self.check(rows, [holds("x", 1)], [
            (holds("x", 1), 1, [MAIN]), (holds("y", 1), 4, [MAIN, holds("x", 1)])])

    def test_bodies_that_are_not_reached_give_none(self):
        program = read_program("func f x\nrow y\ncopy y x\nend\nmain\nend")
        facts = [MAIN, holds(local("x", "f"), 0)]
        self.assertEqual(instances(program, 0, facts), [FIRST])
        reach = ("reach", "f", ())
        self.assertEqual(instances(program, 0, facts + [reach]), sorted([
            FIRST, (holds(local("y", "f"), 0), 0, [reach]),
            (holds(local("y", "f"), 0), 1, [reach, holds(local("x", "f"), 0)])]))


class FinenessTest(unittest.TestCase):
    TEXT = "func f g x\nnew y a\ndo z g x\nend\nfunc g x\nend\nmain\nend"

    def test_calls_behind(self):
        program = read_program("kind a\n" + self.TEXT)
        for fineness, calls, behind in ((0, (), ()), (1, (1,), (1,)), (2, (1,), (1, 1)), (2, (1, 1), (1, 1)),
                                        (2, (), (1,)), (1, (), (1,))):
            reach = ("reach", "f", calls)
            thing = (0, calls)
            held = holds(local("g", "f", calls), thing)
            goes = ("goes", 1, calls, "g", behind)
            x = holds(local("x", "f", calls), thing)
            told = instances(program, fineness, [goes, x, reach, held])
            self.assertEqual(told, sorted([
                FIRST, (holds(local("y", "f", calls), thing), 0, [reach]),
                (("reach", "g", behind), 1, [reach, goes]),
                (holds(local("x", "g", behind), thing), 1, [reach, goes, x])]))

    def test_each_calls_by_themselves(self):
        program = read_program("kind a\n" + self.TEXT)
        one, other = ("reach", "f", (1,)), ("reach", "f", ())
        told = instances(program, 1, [one, other])
        self.assertEqual(told, sorted([
            FIRST, (holds(local("y", "f", (1,)), (0, (1,))), 0, [one]), (holds(local("y", "f"), (0, ())), 0, [other])]))
        self.assertEqual(lacking(program, 1, [one, other]), [
            holds(local("y", "f"), (0, ())), holds(local("y", "f", (1,)), (0, (1,))), MAIN])


class ListsTest(unittest.TestCase):
    def test_in_any_order_each_once_and_as_they_were(self):
        for seed in range(40):
            program = read_program(drawn_text(seed))
            fineness = seed % 3
            facts = drawn_facts(seed, program, fineness, 40)
            before = list(facts)
            told = instances(program, fineness, facts)
            lacks = lacking(program, fineness, facts)
            mixed = facts + facts[::2]
            random.Random(seed).shuffle(mixed)
            self.assertEqual(instances(program, fineness, mixed), told)
            self.assertEqual(lacking(program, fineness, mixed), lacks)
            self.assertEqual(facts, before)
            self.assertEqual(sorted(told), told)
            self.assertFalse(any(one == other for one, other in zip(told, told[1:])))

    def test_told_lists_are_the_askers_own(self):
        program = read_program("kind a\nfunc f x\nend\nmain\nfunc y f\ndo x y x\nend")
        facts = plain_told(program, 1)
        wanted = plain_instances(program, 1, facts)
        told = instances(program, 1, facts)
        for instance in told:
            instance[2].append("other")
        told.clear()
        lacking(program, 1, []).clear()
        self.assertEqual(instances(program, 1, facts), wanted)
        self.assertEqual(lacking(program, 1, []), [MAIN])
        again = instances(program, 1, facts)
        again[0][2].append("other")
        self.assertEqual(again[1:], wanted[1:])


class DrawnTest(unittest.TestCase):
    def test_as_the_plain_rules_tell(self):
        for seed in range(120):
            program = read_program(drawn_text(seed))
            fineness = seed % 3
            for facts in (drawn_facts(seed, program, fineness, (0, 10, 60)[seed % 3]), plain_told(program, fineness)):
                wanted = plain_instances(program, fineness, facts)
                self.assertEqual(instances(program, fineness, facts), wanted)
                heads = {instance[0] for instance in wanted}
                self.assertEqual(lacking(program, fineness, facts), sorted(heads - set(facts)))

    def test_closed_facts_lack_nothing_and_others_lack_what_was_taken(self):
        for seed in range(40):
            program = read_program(drawn_text(seed))
            facts = plain_told(program, seed % 3)
            self.assertEqual(lacking(program, seed % 3, facts), [])
            taken = random.Random(seed).choice(facts)
            less = [fact for fact in facts if fact != taken]
            self.assertTrue(set(lacking(program, seed % 3, less)) <= {taken})


if __name__ == "__main__":
    unittest.main()
