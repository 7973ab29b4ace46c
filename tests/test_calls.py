import unittest

from samples import EVERY

from pointsure.calls import callers_of, calls_behind, cut_calls, goals_of, may_go
from pointsure.outline import Outline
from pointsure.programs import Program

TEXT = """kind a
kind b of a
kind c
func nought
end
func one p
end
func single q keeps k
end
func two p q
end
method a get
end
method a set v
end
method b set v w
end
method c set u
end
method c main
end
main
do x y
do x y z
do x y z z
do x y z z z
ask x y get
ask x y get z
ask x y set
ask x y set z
ask x y set z z
ask x y one z
ask x y main
straight x y a get
straight x y a get z
straight x y a set z
straight x y b set z
straight x y b set z z
straight x y c set z
rest
func x two
end"""

GOALS = [
    ["nought"], ["one", "single"], ["two"], [],
    ["a.get"], [], [], ["a.set", "c.set"], ["b.set"], [], ["c.main"],
    ["a.get"], [], ["a.set"], [], ["b.set"], ["c.set"],
    [], [],
]


class MayGoTest(unittest.TestCase):
    def setUp(self):
        self.outline = Outline(Program(TEXT))

    def test_goals_of_each_row(self):
        for number, goals in enumerate(GOALS):
            with self.subTest(row=number):
                self.assertEqual(goals_of(self.outline, number), goals)

    def test_rows_that_may_go_to_each_body(self):
        for body in Program(TEXT).bodies():
            wanted = [number for number, goals in enumerate(GOALS) if body in goals]
            self.assertEqual(callers_of(self.outline, body), wanted)
            for number in range(len(GOALS)):
                self.assertEqual(may_go(self.outline, number, body), number in wanted)

    def test_nothing_goes_to_main(self):
        self.assertEqual(callers_of(self.outline, "main"), [])
        outline = Outline(Program("func f\nend\nmain\nfunc g f\ndo x g\nend"))
        self.assertEqual(goals_of(outline, 1), ["f"])

    def test_rows_of_every_form(self):
        outline = Outline(Program(EVERY))
        goals = {number: goals_of(outline, number) for number in range(27)}
        self.assertEqual({number: one for number, one in goals.items() if one},
                         {8: ["pair"], 9: ["tree.grow"], 10: ["tree.grow"], 26: ["lone"]})

    def test_told_lists_are_the_askers_own(self):
        goals_of(self.outline, 0).append("other")
        callers_of(self.outline, "one").clear()
        self.assertEqual(goals_of(self.outline, 0), ["nought"])
        self.assertEqual(callers_of(self.outline, "one"), [1])


class CutTest(unittest.TestCase):
    def test_cut_leaves_the_last_rows(self):
        self.assertEqual(cut_calls((2, 4, 6), 2), (4, 6))
        self.assertEqual(cut_calls((2, 4, 6), 1), (6,))

    def test_cut_to_nothing(self):
        self.assertEqual(cut_calls((2, 4, 6), 0), ())
        self.assertEqual(cut_calls((), 0), ())

    def test_cut_leaves_all_where_there_are_no_more(self):
        self.assertEqual(cut_calls((2, 4), 2), (2, 4))
        self.assertEqual(cut_calls((2, 4), 3), (2, 4))
        self.assertEqual(cut_calls((), 2), ())
        self.assertEqual(cut_calls((2,), 1000), (2,))

    def test_the_calling_row_comes_last(self):
        self.assertEqual(calls_behind((), 7, 2), (7,))
        self.assertEqual(calls_behind((3,), 7, 2), (3, 7))
        self.assertEqual(calls_behind((3, 5), 7, 2), (5, 7))
        self.assertEqual(calls_behind((3,), 7, 1), (7,))
        self.assertEqual(calls_behind((), 7, 0), ())

    def test_a_row_that_calls_again_stands_again(self):
        self.assertEqual(calls_behind((7,), 7, 2), (7, 7))

    def test_a_list_of_calls_is_not_kept(self):
        calls = [2, 4]
        made = [cut_calls(calls, 2), calls_behind(calls, 5, 3)]
        calls.append(6)
        self.assertEqual(made, [(2, 4), (2, 4, 5)])


if __name__ == "__main__":
    unittest.main()
