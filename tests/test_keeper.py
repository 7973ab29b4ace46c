import random
import unittest

from drawn import Draw, drawn_text
from test_solver import calling_program, great_program, letters

from pointsure.edits import row_otherwise
from pointsure.errors import NoProgram, NoRow, TooGreat
from pointsure.keeper import Keeper
from pointsure.reader import read_program
from pointsure.solver import Told

MAIN = ("reach", "main", ())


def held(x, row):
    return ("holds", ("local", "main", (), x), (row, ()))


class KeeperTest(unittest.TestCase):
    def test_by_hand(self):
        program = read_program("main\nrow x\nrow y\ncopy z x\ncopy w z\nend")
        keeper = Keeper(program)
        self.assertEqual(keeper.stands().shown(), program.shown())
        self.assertEqual(keeper.facts(), [held("w", 0), held("x", 0), held("y", 1), held("z", 0), MAIN])
        stayed, gone, come = keeper.put_otherwise(2, ["copy", "z", "y"])
        self.assertEqual(stayed, [held("x", 0), held("y", 1), MAIN])
        self.assertEqual(gone, [held("w", 0), held("z", 0)])
        self.assertEqual(come, [held("w", 1), held("z", 1)])
        self.assertEqual(keeper.facts(), [held("w", 1), held("x", 0), held("y", 1), held("z", 1), MAIN])
        self.assertEqual(keeper.stands().row_words(2), ["copy", "z", "y"])
        self.assertEqual(program.row_words(2), ["copy", "z", "x"])

    def test_told_before_and_now_but_not_with_rest(self):
        keeper = Keeper(read_program("main\nrow x\ncopy y x\ncopy z y\nend"))
        self.assertEqual(keeper.put_otherwise(1, ["copy", "y", "x"]), ([held("x", 0), MAIN], [], []))
        self.assertEqual(keeper.put_otherwise(1, ["pull", "y", "x"]), (
            [held("x", 0), MAIN], [held("y", 0), held("z", 0)], []))
        keeper = Keeper(read_program("main\nrow x\nrow w\npush w x\ncopy y x\nend"))
        stayed, gone, come = keeper.put_otherwise(3, ["pull", "y", "w"])
        self.assertEqual((gone, come), ([], []))
        self.assertNotIn(held("y", 0), stayed)
        self.assertIn(held("y", 0), keeper.facts())

    def test_by_rest_and_back(self):
        keeper = Keeper(read_program("main\nrow x\ncopy y x\nend"))
        self.assertEqual(keeper.put_otherwise(0, ["rest"]), ([MAIN], [held("x", 0), held("y", 0)], []))
        self.assertEqual(keeper.put_otherwise(0, ["row", "x"]), ([MAIN], [], [held("x", 0), held("y", 0)]))
        self.assertEqual(keeper.put_otherwise(1, ["rest"]), ([held("x", 0), MAIN], [held("y", 0)], []))
        self.assertEqual(keeper.put_otherwise(1, ["rest"]), ([held("x", 0), MAIN], [], []))

    def check_step(self, keeper, fineness, number, words):
        """Held against what is told anew of the three programs; whether it was refused."""
        before = keeper.stands()
        facts = keeper.facts()
        handed = list(words)
        try:
            told = keeper.put_otherwise(number, words)
        except (NoRow, NoProgram, TooGreat) as refusal:
            self.assertEqual(keeper.stands().shown(), before.shown())
            self.assertEqual(keeper.facts(), facts)
            return type(refusal)
        self.assertEqual(words, handed)
        now = row_otherwise(before, number, words)
        self.assertEqual(keeper.stands().shown(), now.shown())
        later = Told(now, fineness).facts()
        rested = Told(row_otherwise(before, number, ["rest"]), fineness).facts()
        self.assertEqual(keeper.facts(), later)
        self.assertEqual(facts, Told(before, fineness).facts())
        self.assertEqual(told, (
            rested, sorted(set(facts) - set(later)), sorted(set(later) - set(facts))))
        self.assertLessEqual(set(rested), set(facts) & set(later))
        return None

    def test_drawn_rows_one_behind_the_other(self):
        done = 0
        for seed in range(36):
            draw = Draw(seed)
            program = read_program(draw.text())
            keeper = Keeper(program, seed % 3)
            for turn in range(8):
                number = draw.chance.randrange(-1, program.many_rows() + 1)
                words = draw.chance.choice([draw.plain_row(), draw.plain_row(), ["rest"], program.row_words(0)])
                done += self.check_step(keeper, seed % 3, number, words) is None
        self.assertGreater(done, 150)

    def test_refused_when_it_is_made(self):
        self.assertRaises(TooGreat, Keeper, great_program(20))
        self.assertRaises(TooGreat, Keeper, calling_program(64), 1)
        self.assertEqual(len(Keeper(great_program(19)).facts()), 6000)
        self.assertEqual(len(Keeper(calling_program(64)).facts()), 67)

    def test_refused_rows_change_nothing(self):
        keeper = Keeper(read_program("main\nrow x\nif choose\nend\ncopy y x\nend"))
        for number, words, refusal in (
                (1, ["rest"], NoRow), (3, ["rest"], NoRow), (-1, ["rest"], NoRow), (0, [], NoRow), (0, ["end"], NoRow),
                (0, ["any"], NoProgram), (2, ["func", "x", "f"], NoProgram), (0, ["new", "x", "a"], NoProgram)):
            self.assertIs(self.check_step(keeper, 0, number, words), refusal)
        self.assertIsNone(self.check_step(keeper, 0, 2, ["copy", "z", "x"]))

    def test_too_many_facts_change_nothing(self):
        program = great_program(20)
        last = program.many_rows() - 1
        smaller = row_otherwise(program, last, ["rest"])
        keeper = Keeper(smaller)
        self.assertEqual(len(keeper.facts()), 6000)
        with self.assertRaises(TooGreat) as caught:
            keeper.put_otherwise(last, ["row", letters(1019)])
        self.assertIs(type(caught.exception), TooGreat)
        self.assertEqual(keeper.stands().shown(), smaller.shown())
        self.assertEqual(len(keeper.facts()), 6000)
        # In the place of a row that has facts of its own, there is room again.
        stayed, gone, come = keeper.put_otherwise(0, ["row", letters(2000)])
        self.assertEqual((len(stayed), len(gone), len(come)), (6000 - 299, 299, 1))
        self.assertEqual(len(keeper.put_otherwise(last, ["row", letters(1019)])[2]), 1)

    def test_too_many_facts_though_rest_would_have_fewer(self):
        program = great_program(19)
        keeper = Keeper(program)
        facts = keeper.facts()
        last = program.many_rows() - 1
        # The row gives one fact; in its place the first name, which holds twenty things, is copied to one more.
        self.assertRaises(TooGreat, keeper.put_otherwise, last, ["copy", letters(2000), letters(0)])
        self.assertEqual(keeper.stands().shown(), program.shown())
        self.assertEqual(keeper.facts(), facts)
        self.assertEqual(keeper.put_otherwise(last, ["rest"])[1], [held(letters(1018), last)])

    def test_two_keepers_of_one_program(self):
        program = read_program("main\nrow x\ncopy y x\nend")
        one, other = Keeper(program), Keeper(program)
        one.put_otherwise(1, ["rest"])
        self.assertEqual(other.facts(), [held("x", 0), held("y", 0), MAIN])
        self.assertEqual(other.stands().shown(), program.shown())
        other.put_otherwise(0, ["rest"])
        self.assertEqual(one.facts(), [held("x", 0), MAIN])

    def test_what_is_done_to_lists_changes_nothing(self):
        keeper = Keeper(read_program("main\nrow x\ncopy y x\nend"))
        words = ["copy", "z", "x"]
        told = keeper.put_otherwise(1, words)
        wanted = ([held("x", 0), MAIN], [held("y", 0)], [held("z", 0)])
        words[1] = "w"
        words.clear()
        facts = keeper.facts()
        keeper.facts().clear()
        self.assertEqual(told, wanted)
        for part in told:
            part.clear()
        self.assertEqual(keeper.facts(), facts)
        self.assertEqual(keeper.facts(), [held("x", 0), held("z", 0), MAIN])
        self.assertEqual(keeper.stands().row_words(1), ["copy", "z", "x"])

    def test_rows_of_other_bodies(self):
        text = "kind a\nmethod a m x\ngive x\nend\nmain\nnew x a\nask y x m x\nend"
        for fineness in (0, 1, 2):
            keeper = Keeper(read_program(text), fineness)
            self.assertIsNone(self.check_step(keeper, fineness, 0, ["row", "z"]))
            self.assertIsNone(self.check_step(keeper, fineness, 0, ["give", "self"]))
            self.assertIsNone(self.check_step(keeper, fineness, 2, ["rest"]))
            self.assertIsNone(self.check_step(keeper, fineness, 2, ["straight", "y", "x", "a", "m", "x"]))
            self.assertIn(("holds", ("local", "main", (), "y"), (1, ())), keeper.facts())


class SeedsTest(unittest.TestCase):
    def test_rows_swapped_in_drawn_programs(self):
        for seed in range(12):
            program = read_program(drawn_text(seed))
            keeper = Keeper(program, 1)
            chance = random.Random(seed)
            plain = [number for number in range(program.many_rows())
                     if program.row_words(number)[0] not in ("if", "while")]
            first, second = chance.choice(plain), chance.choice(plain)
            keeper.put_otherwise(first, program.row_words(second))
            keeper.put_otherwise(second, program.row_words(first))
            keeper.put_otherwise(second, program.row_words(second))
            keeper.put_otherwise(first, program.row_words(first))
            self.assertEqual(keeper.stands().shown(), program.shown())
            self.assertEqual(keeper.facts(), Told(program, 1).facts())


if __name__ == "__main__":
    unittest.main()
