import unittest

from drawn import drawn_inputs, drawn_text
from plain import PlainMachine
from samples import BARE, EVERY

from pointsure.machine import Machine, run_program
from pointsure.reader import read_program

KINDS = """kind a fields p q
kind b of a fields r
kind z
kind none fields p
func nought
end
func first one two
give one
end
func keep keeps one two
give two
end
func mix one keeps two
tell one
tell two
end
method a get
give self
end
method a set v
put self p v
end
method b get
tell self
give self
end
"""


def main_of(rows):
    return read_program(KINDS + "main\n" + "".join(row + "\n" for row in rows) + "end")


def run(rows, inputs=(), fuel=1000):
    return run_program(main_of(rows), list(inputs), fuel)


def first_row():
    """The number of main's first row behind these kinds and bodies."""
    return main_of([]).many_rows()


def told(rows, inputs=()):
    texts, end = run(rows, inputs)
    assert end == ("given", "none"), end
    return texts


def steps(machine, many):
    for number in range(many):
        machine.step()
    return machine


class DeedsTest(unittest.TestCase):
    def test_what_each_value_is_shown_as(self):
        rows = ["tell x", "new x b", "tell x", "row x", "tell x", "func x nought", "tell x", "fresh x z", "tell x"]
        self.assertEqual(told(rows), ["none", "b", "row", "nought", "z"])

    def test_a_new_record_has_all_fields_none(self):
        machine = steps(Machine(main_of(["new x b", "new y z"]), [], 9), 2)
        number = first_row()
        fields = [("p", None), ("q", None), ("r", None)]
        self.assertEqual(machine.things(), [(number, "record", fields), (number + 1, "record", [])])

    def test_two_names_for_one_thing(self):
        rows = ["new x a", "copy y x", "row z", "put x p z", "take w y p", "tell w", "if same x y", "tell x", "end"]
        self.assertEqual(told(rows), ["row", "a"])

    def test_a_copy_of_none(self):
        self.assertEqual(told(["row x", "copy x y", "tell x"]), ["none"])

    def test_fields_of_elders_and_of_other_things(self):
        rows = ["new x b", "new y b", "put x p y", "put x r x", "take z y p", "tell z", "take z x p", "take z z r",
                "tell z", "take z x r", "if same z x", "tell x", "end"]
        self.assertEqual(told(rows), ["none", "none", "b"])

    def test_put_of_none(self):
        self.assertEqual(told(["new x a", "put x p x", "put x p y", "take z x p", "tell z"]), ["none"])

    def test_check_does_nothing(self):
        self.assertEqual(told(["new x a", "put x p x", "check x p", "check x q", "take z x p", "tell z"]), ["a"])

    def test_members_come_and_go_at_the_end(self):
        rows = ["row x", "new y a", "new z b", "push x y", "push x w", "push x z", "push x x",
                "pull v x", "tell v", "pull v x", "tell v", "pull v x", "tell v", "pull v x", "tell v",
                "pull v x", "tell v"]
        self.assertEqual(told(rows), ["row", "b", "none", "a", "none"])

    def test_pull_of_a_row_without_members_gives_none(self):
        self.assertEqual(told(["row x", "copy y x", "pull y x", "tell y", "tell x"]), ["none", "row"])

    def test_a_row_pulls_its_member_in_its_own_place(self):
        self.assertEqual(told(["row x", "new y a", "push x y", "pull x x", "tell x"]), ["a"])

    def test_what_a_function_thing_keeps_is_as_it_was(self):
        rows = ["new x a", "row y", "func f keep x y", "copy y x", "copy x w", "do z f", "tell z"]
        self.assertEqual(told(rows), ["row"])
        machine = steps(Machine(main_of(rows), [], 99), 3)
        kept = [("one", ("thing", 0)), ("two", ("thing", 1))]
        self.assertEqual(machine.things()[2], (first_row() + 2, "func", kept))

    def test_kept_names_that_are_none(self):
        machine = steps(Machine(main_of(["func f keep x y"]), [], 9), 1)
        self.assertEqual(machine.things(), [(first_row(), "func", [("one", None), ("two", None)])])

    def test_a_kept_name_given_a_value_is_not_kept_so(self):
        text = "func f keeps k\ntell k\nrow k\nend\nmain\nfunc x f y\ndo z x\ndo z x\nend"
        self.assertEqual(run_program(read_program(text), [], 99), (["none", "none"], ("given", "none")))

    def test_parameters_and_kept_names(self):
        rows = ["new x a", "row y", "func f mix y", "do z f x", "tell z"]
        self.assertEqual(told(rows), ["a", "row", "none"])
        rows = ["new x a", "row y", "func f first", "do z f x y", "tell z", "do z f y x", "tell z"]
        self.assertEqual(told(rows), ["a", "row"])

    def test_ask_finds_the_method_of_the_things_kind(self):
        rows = ["new x a", "new y b", "ask z x get", "tell z", "ask z y get", "tell z", "ask z y set x", "tell z",
                "take z y p", "tell z"]
        self.assertEqual(told(rows), ["a", "b", "b", "none", "a"])

    def test_straight_whatever_kind_of_record_it_is(self):
        rows = ["new x b", "straight y x a get", "tell y", "new x z", "straight y x b get", "tell y"]
        self.assertEqual(told(rows), ["b", "z", "z"])

    def test_given_to_the_name_that_called(self):
        self.assertEqual(told(["new x b", "ask x x set x", "tell x"]), ["none"])

    def test_the_names_of_a_call_are_none_at_first(self):
        text = "func f\ntell x\nrow x\ntell x\nend\nmain\nfunc x f\ndo y x\ndo y x\nend"
        self.assertEqual(run_program(read_program(text), [], 99)[0], ["none", "row", "none", "row"])

    def test_self_is_a_name_like_others_elsewhere(self):
        self.assertEqual(told(["tell self", "row self", "tell self"]), ["none", "row"])


class MarksTest(unittest.TestCase):
    def test_own_fields(self):
        rows = ["fresh x a", "own y x p", "tell y", "row y", "place x p y", "own z x p", "tell z", "own z x q", "tell z"]
        self.assertEqual(told(rows), ["none", "row", "none"])

    def test_own_fields_belong_to_the_name(self):
        rows = ["fresh x a", "row y", "place x p y", "copy w x", "own z w p", "tell z", "tell w"]
        self.assertEqual(told(rows), ["none", "a"])

    def test_own_fields_stay_with_the_name(self):
        rows = ["fresh x a", "row y", "place x p y", "copy w x", "copy x y", "copy x w", "own z x p", "tell z"]
        self.assertEqual(told(rows), ["row"])

    def test_fresh_again(self):
        rows = ["fresh x a", "row y", "place x p y", "fresh x a", "own z x p", "tell z"]
        self.assertEqual(told(rows), ["none"])

    def test_fresh_of_another_kind_leaves_other_own_fields(self):
        rows = ["fresh x b", "row y", "place x p y", "place x q y", "place x r y", "fresh x none",
                "own z x p", "tell z", "fresh w b", "copy x w",
                "own z x p", "tell z", "own z x q", "tell z", "own z x r", "tell z"]
        self.assertEqual(told(rows), ["none", "none", "row", "row"])

    def test_own_fields_are_of_one_call(self):
        text = ("kind a fields p\nfunc f keeps k\nfresh x a\nown y x p\ntell y\nplace x p k\nend\n"
                "main\nrow k\nfunc f f k\ndo y f\nfresh x a\nown y x p\ntell y\ndo y f\nend")
        self.assertEqual(run_program(read_program(text), [], 99)[0], ["none", "none", "none"])

    def test_a_name_that_got_its_mark_as_parameter(self):
        text = ("kind a fields p\nfunc f m\nown y m p\ntell y\nplace m p m\nown y m p\ntell y\nend\n"
                "main\nfresh x a\nplace x p x\nfunc f f\ndo y f x\nend")
        self.assertEqual(run_program(read_program(text), [], 99)[0], ["none", "a"])

    def test_place_of_none(self):
        self.assertEqual(told(["fresh x a", "place x p x", "place x p y", "own z x p", "tell z"]), ["none"])

    def test_marks_make_no_thing(self):
        machine = steps(Machine(main_of(["fresh x a", "row y", "place x p y"]), [], 9), 2)
        self.assertEqual(machine.calls(), [("main", None, [("x", ("mark", "a")), ("y", ("thing", 0))])])
        machine.step()
        self.assertEqual(machine.calls(), [])
        self.assertEqual(machine.things(), [(first_row() + 1, "row", [])])


class ConditionsTest(unittest.TestCase):
    def test_choose_by_inputs(self):
        rows = ["row x", "if choose", "tell x", "else", "tell y", "end"] * 5
        self.assertEqual(told(rows, [1, 0, -3, 0, 2]), ["row", "none", "row", "none", "row"])

    def test_inputs_that_are_out(self):
        self.assertEqual(told(["if choose", "tell x", "end", "while choose", "tell x", "end"], []), [])
        self.assertEqual(told(["while choose", "tell x", "end"], [1, 1]), ["none", "none"])

    def test_inputs_are_used_by_choose_alone(self):
        rows = ["row x", "if some x", "end", "if same x x", "end", "while choose", "tell x", "if choose", "tell y", "end",
                "end"]
        self.assertEqual(told(rows, [1, 1, 1, 0, 0, 1]), ["row", "none", "row"])

    def test_some(self):
        rows = ["if some x", "tell x", "else", "tell y", "end"]
        self.assertEqual(told(rows), ["none"])
        for row, text in (("row x", "row"), ("new x a", "a"), ("func x nought", "nought"), ("fresh x z", "z")):
            self.assertEqual(told([row] + rows), [text])

    def test_same(self):
        ask = ["if same x y", "tell x", "end"]
        self.assertEqual(told(ask), ["none"])
        self.assertEqual(told(["row x"] + ask), [])
        self.assertEqual(told(["row y"] + ask), [])
        self.assertEqual(told(["row x", "row y"] + ask), [])
        self.assertEqual(told(["row x", "copy y x"] + ask), ["row"])
        self.assertEqual(told(["row x", "if same x x", "tell x", "end"]), ["row"])

    def test_a_mark_is_never_the_same(self):
        self.assertEqual(told(["fresh x a", "if same x x", "tell x", "end"]), [])
        self.assertEqual(told(["fresh x a", "copy y x", "if same x y", "tell x", "end"]), [])
        self.assertEqual(told(["fresh x a", "if same x y", "tell x", "end"]), [])
        self.assertEqual(told(["fresh x a", "if same y x", "tell x", "end"]), [])
        self.assertEqual(told(["fresh x a", "new y a", "if same y x", "tell x", "end"]), [])

    def test_steps_through_blocks(self):
        number = first_row()
        rows = ["if choose", "rest", "else", "tell x", "end", "while choose", "if choose", "end", "end", "rest"]
        for inputs, wanted in (([], 4), ([1], 4), ([0, 1], 6), ([1, 1, 1, 1, 0], 8)):
            machine = Machine(main_of(rows), inputs, 99)
            many = 0
            while machine.step():
                many += 1
            self.assertEqual(many, wanted)
        self.assertEqual(number, read_program(KINDS + "main\nend").many_rows())

    def test_a_while_without_rows_is_asked_again(self):
        machine = Machine(main_of(["while choose", "end"]), [1, 1, 1], 99)
        self.assertEqual([machine.step() for number in range(5)], [True, True, True, True, False])
        self.assertEqual(machine.end(), ("given", "none"))


class CallsTest(unittest.TestCase):
    def test_a_main_without_rows_is_over_ahead_of_the_first_step(self):
        for fuel in (0, 1):
            machine = Machine(read_program(BARE), [], fuel)
            self.assertEqual(machine.end(), ("given", "none"))
            self.assertEqual((machine.calls(), machine.things(), machine.told()), ([], [], []))
            self.assertFalse(machine.step())
            self.assertEqual(machine.end(), ("given", "none"))

    def test_a_call_without_rows_is_over_with_the_step_that_called(self):
        machine = steps(Machine(main_of(["func f nought", "row x", "do x f", "rest"]), [], 99), 3)
        self.assertEqual(machine.calls(), [("main", None, [("f", ("thing", 0))])])
        machine.step()
        self.assertEqual(machine.end(), ("given", "none"))

    def test_calls_wait_at_their_rows(self):
        text = "func f g\ndo x g\nrest\nend\nfunc g\nrest\nend\nmain\nfunc f f\nfunc g g\ndo y f g\nrest\nend"
        machine = steps(Machine(read_program(text), [], 99), 3)
        names = [("f", ("thing", 0)), ("g", ("thing", 1))]
        self.assertEqual(machine.calls(), [("main", 5, names), ("f", None, [("g", ("thing", 1))])])
        machine.step()
        self.assertEqual(machine.calls(), [("main", 5, names), ("f", 0, [("g", ("thing", 1))]), ("g", None, [])])
        machine.step()
        self.assertEqual(machine.calls(), [("main", 5, names), ("f", None, [("g", ("thing", 1))])])
        machine.step()
        self.assertEqual(machine.calls(), [("main", None, names)])

    def test_several_calls_over_with_one_step(self):
        text = ("func f\nif choose\nfunc g g\ndo x g\nend\nend\nfunc g\nwhile choose\nend\nend\n"
                "main\nfunc f f\nrow y\ndo y f\nend")
        machine = Machine(read_program(text), [1, 0], 99)
        steps(machine, 5)
        self.assertEqual([call[:2] for call in machine.calls()], [("main", 6), ("f", None)])
        steps(machine, 1)
        self.assertEqual([call[:2] for call in machine.calls()], [("main", 6), ("f", 2), ("g", None)])
        self.assertIsNone(machine.end())
        machine.step()
        self.assertEqual(machine.end(), ("given", "none"))
        self.assertEqual(machine.calls(), [])
        self.assertFalse(machine.step())

    def test_give_within_blocks(self):
        text = ("func f x\nwhile some x\nif choose\nwhile choose\ngive x\nrest\nend\nend\nend\ntell x\nend\n"
                "main\nrow x\nfunc f f\ndo y f x\ntell y\ngive f\ntell x\nend")
        self.assertEqual(run_program(read_program(text), [0, 1, 1], 99), (["row"], ("given", "f")))

    def test_what_main_gives(self):
        for row, text in (("rest", "none"), ("row x", "row"), ("new x b", "b"), ("fresh x a", "a"),
                          ("func x first", "first")):
            self.assertEqual(run([row, "give x", "tell x"]), ([], ("given", text)))

    def test_thirty_calls_stand(self):
        text = "func f f\ndo x f f\ntell x\nend\nmain\nfunc f f\ndo x f f\nend"
        machine = Machine(read_program(text), [], 1000)
        while machine.step():
            pass
        self.assertEqual(machine.end(), ("deep", 0))
        self.assertEqual(len(machine.calls()), 30)
        self.assertEqual(machine.calls()[29], ("f", None, [("f", ("thing", 0))]))
        self.assertEqual(machine.calls()[28], ("f", 0, [("f", ("thing", 0))]))

    def test_the_thirtieth_call_may_be_made(self):
        head = ["kind a", "func f keeps l", "pull x l", "if some x", "func f f l", "do y f", "end", "tell x", "end",
                "main", "row l", "new x a"]
        for many, end in ((28, "given"), (29, "deep")):
            text = "\n".join(head + ["push l x"] * many + ["func f f l", "do y f", "end"])
            told_texts, ended = run_program(read_program(text), [], 10000)
            self.assertEqual(ended[0], end)
            self.assertEqual(len(told_texts), 29 if end == "given" else 0)


class FaultsTest(unittest.TestCase):
    def check_fault(self, rows, word, place=None):
        number = first_row() + (len(rows) - 1 if place is None else place)
        self.assertEqual(run(rows), ([], ("fault", number, word)))

    def test_none(self):
        for row in ("take x y p", "put y p x", "check y p", "push y x", "pull x y", "do x y", "ask x y get",
                    "straight x y a get", "own x y p", "place y p x"):
            self.check_fault([row], "none")

    def test_sort(self):
        rows = {"record": ("take x y p", "put y p x", "check y p", "ask x y get", "straight x y a get"),
                "row": ("push y x", "pull x y"), "func": ("do x y",), "mark": ("own x y p", "place y p x")}
        makes = {"record": "new y a", "row": "row y", "func": "func y nought", "mark": "fresh y a"}
        for sort in rows:
            for other in makes:
                for row in rows[sort]:
                    if sort != other:
                        self.check_fault([makes[other], row], "sort")
                    else:
                        self.assertEqual(run([makes[other], row])[1], ("given", "none"))

    def test_field(self):
        for row in ("take x y r", "put y r x", "check y r", "take x y any", "put y get x", "check y any"):
            self.check_fault(["new y a", row], "field")
        for row in ("own x y r", "place y r x"):
            self.check_fault(["fresh y a", row], "field")
        self.check_fault(["new y z", "take x y p"], "field")

    def test_method(self):
        self.check_fault(["new y z", "ask x y get"], "method")
        self.check_fault(["new y a", "ask x y first"], "method")
        self.check_fault(["new y b", "ask x y any x x x"], "method")

    def test_count(self):
        for row in ("do x y", "do x y x", "do x y x x x"):
            self.check_fault(["func y first", row], "count")
        for row in ("ask x y get x", "ask x y set", "ask x y set x x", "straight x y a get x", "straight x y a set"):
            self.check_fault(["new y b", row], "count")
        self.check_fault(["func y keep x x", "do x y x x"], "count")

    def test_the_first_of_several(self):
        self.check_fault(["take x y any"], "none")
        self.check_fault(["row y", "take x y any"], "sort")
        self.check_fault(["row y", "ask x y any"], "sort")
        self.check_fault(["do x y x x x"], "none")
        self.check_fault(["new y z", "ask x y set"], "method")
        self.check_fault(["row y", "straight x y a get x"], "sort")

    def test_faults_ahead_of_deep(self):
        for row, word in (("do x g f", None), ("do x y", "none"), ("do x l", "sort"), ("do x g", "count"),
                          ("ask x r any", "method"), ("ask x r get f", "count"), ("straight x r a get f", "count")):
            text = ("kind a\nmethod a get\nend\nfunc f f\nif choose\ndo x f f\nelse\nrow l\nnew r a\nfunc g f\n" + row
                    + "\nend\nend\nmain\nfunc f f\ndo x f f\nend")
            program = read_program(text)
            end = run_program(program, [1] * 28, 1000)[1]
            self.assertEqual(end, ("deep", 5) if word is None else ("fault", 5, word))
            self.assertEqual(run_program(program, [1] * 29, 1000)[1], ("deep", 1))

    def test_what_it_would_do_is_not_done(self):
        machine = Machine(main_of(["row x", "new y a", "take x y any", "rest"]), [], 9)
        while machine.step():
            pass
        number = first_row()
        self.assertEqual(machine.end(), ("fault", number + 2, "field"))
        self.assertEqual(machine.calls(), [("main", None, [("x", ("thing", 0)), ("y", ("thing", 1))])])
        before = (machine.calls(), machine.things(), machine.told(), machine.end())
        self.assertFalse(machine.step())
        self.assertEqual((machine.calls(), machine.things(), machine.told(), machine.end()), before)

    def test_a_fault_takes_its_fuel(self):
        self.assertEqual(run(["rest", "pull x y"], [], 2)[1], ("fault", first_row() + 1, "none"))
        self.assertEqual(run(["rest", "pull x y"], [], 1)[1], ("dry",))

    def test_rows_that_never_fault(self):
        rows = ["copy x y", "give x"]
        self.assertEqual(run(["tell x", "rest", "if some x", "end", "if same x y", "end"] + rows)[1], ("given", "none"))


class FuelTest(unittest.TestCase):
    def test_dry_at_once(self):
        machine = Machine(main_of(["tell x"]), [], 0)
        self.assertIsNone(machine.end())
        self.assertEqual(len(machine.calls()), 1)
        self.assertTrue(machine.step())
        self.assertEqual(machine.end(), ("dry",))
        self.assertEqual(machine.told(), [])
        self.assertEqual(machine.calls(), [("main", None, [])])
        self.assertFalse(machine.step())
        self.assertEqual(machine.end(), ("dry",))

    def test_just_enough(self):
        rows = ["tell x", "rest", "tell x"]
        self.assertEqual(run(rows, [], 3), (["none", "none"], ("given", "none")))
        self.assertEqual(run(rows, [], 2), (["none"], ("dry",)))
        self.assertEqual(run(rows, [], 4), (["none", "none"], ("given", "none")))

    def test_conditions_take_fuel_and_ends_take_none(self):
        rows = ["while choose", "if some x", "else", "end", "end"]
        self.assertEqual(run(rows, [1, 1], 5)[1], ("given", "none"))
        self.assertEqual(run(rows, [1, 1], 4)[1], ("dry",))

    def test_long_runs(self):
        self.assertEqual(run(["while same x x", "end"], [], 100000), ([], ("dry",)))


class ShownTest(unittest.TestCase):
    def test_names_sorted_with_own_fields_among_them(self):
        rows = ["fresh x a", "row z", "place x q z", "place x p x", "new a b", "func xa nought", "rest"]
        machine = steps(Machine(main_of(rows), [], 99), 6)
        names = [("a", ("thing", 1)), ("x", ("mark", "a")), ("x.p", ("mark", "a")), ("x.q", ("thing", 0)),
                 ("xa", ("thing", 2)), ("z", ("thing", 0))]
        self.assertEqual(machine.calls(), [("main", None, names)])

    def test_things_by_their_numbers(self):
        rows = ["row l", "while choose", "new x b", "push l x", "push l y", "end", "put x r l", "put x p x", "rest"]
        machine = steps(Machine(main_of(rows), [1, 1], 99), 12)
        number = first_row()
        self.assertEqual(machine.things(), [
            (number, "row", [("thing", 1), None, ("thing", 2), None]),
            (number + 2, "record", [("p", None), ("q", None), ("r", None)]),
            (number + 2, "record", [("p", ("thing", 2)), ("q", None), ("r", ("thing", 0))])])

    def test_what_is_told_is_the_askers_own(self):
        rows = ["row l", "new x a", "push l x", "tell l", "rest"]
        machine = steps(Machine(main_of(rows), [], 99), 4)
        before = (machine.calls(), machine.things(), machine.told())
        calls, things, texts = machine.calls(), machine.things(), machine.told()
        calls[0][2].clear()
        calls.clear()
        things[0][2].clear()
        things[1][2].append(("any", None))
        things.pop()
        texts.append("other")
        self.assertEqual((machine.calls(), machine.things(), machine.told()), before)

    def test_what_is_told_stays_as_it_was(self):
        machine = steps(Machine(main_of(["row l", "tell l", "push l l", "tell l", "rest"]), [], 99), 2)
        told_then = (machine.calls(), machine.things(), machine.told())
        copied = ([("main", None, [("l", ("thing", 0))])], [(first_row(), "row", [])], ["row"])
        steps(machine, 2)
        self.assertEqual(told_then, copied)

    def test_inputs_are_copied(self):
        inputs = [1, 1]
        machine = Machine(main_of(["if choose", "tell x", "end", "if choose", "tell x", "end"]), inputs, 99)
        inputs[1] = 0
        inputs.append(5)
        while machine.step():
            pass
        self.assertEqual(machine.told(), ["none", "none"])
        self.assertEqual(inputs, [1, 0, 5])
        run_program(main_of(["if choose", "end"]), inputs, 9)
        self.assertEqual(inputs, [1, 0, 5])

    def test_two_machines_by_turns(self):
        program = main_of(["row l", "while choose", "new x a", "push l x", "tell x", "end", "tell l"])
        one, other = Machine(program, [1, 1, 0], 99), Machine(program, [1], 7)
        while one.step() | other.step():
            pass
        self.assertEqual((one.told(), one.end()), run_program(program, [1, 1, 0], 99))
        self.assertEqual((other.told(), other.end()), run_program(program, [1], 7))
        self.assertEqual((len(one.things()), len(other.things())), (3, 2))

    def test_a_run_to_its_end_as_step_by_step(self):
        program = read_program(EVERY)
        machine = Machine(program, [], 50)
        while machine.step():
            pass
        self.assertEqual(run_program(program, [], 50), (machine.told(), machine.end()))


class DrawnTest(unittest.TestCase):
    def test_each_step_as_a_plain_machine_does_it(self):
        for seed in range(250):
            program = read_program(drawn_text(seed, wild=0.05))
            inputs = drawn_inputs(seed)
            for fuel in (200, seed % 20):
                machine = Machine(program, inputs, fuel)
                shots = [(machine.calls(), machine.things(), machine.told(), machine.end())]
                while machine.step():
                    shots.append((machine.calls(), machine.things(), machine.told(), machine.end()))
                self.assertEqual(shots, PlainMachine(program, inputs, fuel).shots)


if __name__ == "__main__":
    unittest.main()
