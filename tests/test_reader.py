import unittest

from drawn import drawn_text
from samples import BARE, EVERY, WORDS

from pointsure.errors import NoProgram, PointError
from pointsure.programs import Program
from pointsure.reader import read_program

FORMS = [
    "new x a", "row x", "func x f", "func x g y y", "copy x y", "take x y z", "put y z x", "push y x", "pull x y",
    "do x y", "do x y z", "ask x y m", "ask x y any z", "straight x y a m", "straight x y a m z", "give x", "tell x",
    "rest", "check y z", "fresh x a", "own x y z", "place y z x"]
CONDITIONS = ["choose", "some x", "same x y"]


def around(rows, kinds=("kind a fields p q", "kind b of a")):
    """A program that has these rows, as many as they are, in its main, from row 10 on."""
    heads = list(kinds) + ["func f", "end", "func g keeps p q", "end", "method a m", "end", "main"]
    return "\n".join(heads + list(rows) + ["end"])


def at_line(text):
    try:
        read_program(text)
    except NoProgram as refusal:
        return refusal.line
    return None


class ProgramsTest(unittest.TestCase):
    def check_read(self, text):
        program = read_program(text)
        self.assertIsInstance(program, Program)
        self.assertEqual(program.shown(), text)

    def test_every_form(self):
        for text in (EVERY, WORDS, BARE):
            self.check_read(text)

    def test_each_form_by_itself(self):
        for row in FORMS:
            with self.subTest(row=row):
                self.check_read(around([row]))

    def test_conditions(self):
        for condition in CONDITIONS:
            self.check_read(around(["if " + condition, "end"]))
            self.check_read(around(["if " + condition, "else", "end"]))
            self.check_read(around(["if " + condition, "rest", "else", "rest", "rest", "end"]))
            self.check_read(around(["while " + condition, "end"]))
            self.check_read(around(["while " + condition, "rest", "rest", "end", "rest"]))

    def test_kinds(self):
        for rows in ("kind a", "kind a fields b", "kind a fields b c d", "kind a\nkind b of a",
                     "kind a fields c\nkind b of a fields d\nkind c of b fields a b", "kind a fields x\nkind b fields x",
                     "kind a\nkind b of a fields x\nkind c of a fields x"):
            with self.subTest(rows=rows):
                self.check_read(rows + "\nmain\nend")

    def test_words_of_the_language_as_kinds_and_fields(self):
        for rows in ("kind of", "kind of fields of", "kind fields", "kind fields fields fields", "kind kind",
                     "kind of\nkind a of of", "kind of\nkind fields of of fields of fields", "kind a fields of",
                     "kind fields\nkind a of fields", "kind fields\nkind a of fields fields fields",
                     "kind main\nkind end of main fields kind"):
            with self.subTest(rows=rows):
                self.check_read(rows + "\nmain\nend")

    def test_heads(self):
        for rows in ("func f", "func f a b c", "func f keeps a", "func f a keeps b c", "func keeps", "func keeps keeps a",
                     "func keeps keeps keeps", "func f a keeps keeps", "func func func", "func end if", "func f main",
                     "method a b", "method a a a", "method a keeps keeps", "method a main c keeps", "method a self f",
                     "func self", "method a end", "func a a"):
            with self.subTest(rows=rows):
                self.check_read("kind a\n" + rows + "\nend\nmain\nend")

    def test_bodies_in_any_order(self):
        self.check_read("kind a\nmethod a m\nstraight x self a n\nfunc x g x x\nend\nfunc f\nend\nmethod a n\nend\n"
                        "func g keeps p q\nend\nmain\nend")

    def test_the_same_names_elsewhere(self):
        self.check_read("kind a fields a\nkind b fields a\nfunc a a\nend\nmethod a a a\nend\nmethod b a a\nend\nmain\nend")
        self.check_read("func f a keeps b\nend\nfunc g b keeps a\nend\nmain\nend")

    def test_eight_blocks_within_one_another(self):
        for word in ("if", "while"):
            rows = [word + " choose"] * 8
            self.check_read(around(rows + ["rest"] + ["end"] * 8))
            self.check_read(around(rows + ["end"] * 8 + rows + ["end"] * 8))
        self.check_read(around((["if choose", "else", "while choose"] * 4) + ["end"] * 8))
        self.check_read("func f\n" + "if choose\n" * 8 + "end\n" * 9 + "main\n" + "if choose\n" * 8 + "end\n" * 8 + "end")

    def test_names_of_eight_letters(self):
        self.check_read("kind abcdefgh fields zyxwvuts\nfunc straight straight\nend\nmain\nnew abcdefgh abcdefgh\nend")

    def test_a_function_used_ahead_of_its_row(self):
        self.check_read("func f\nfunc x g y\nend\nfunc g keeps z\nfunc x f\nend\nmain\nend")

    def test_drawn_ones(self):
        for seed in range(60):
            self.check_read(drawn_text(seed))


# Each one with the number that it is refused with.
WRONG = [
    # No rows at all, blanks and signs.
    ("", 0), ("\n", 0), (" ", 0), ("main\nend\n", 2), ("main\nend\n\n", 2), ("main\n\nend", 1), ("\nmain\nend", 0),
    ("main \nend", 0), (" main\nend", 0), ("main\nend ", 1), ("main\ncopy  x y\nend", 1), ("main\ncopy x y \nend", 1),
    ("main\n rest\nend", 1), ("Main\nend", 0), ("main\ntell X\nend", 1), ("main\ntell x1\nend", 1),
    ("main\ntell x.y\nend", 1), ("main\ntell x_y\nend", 1), ("main\ntell abcdefghi\nend", 1), ("main\nrest;\nend", 1),
    ("kind abcdefghi\nmain\nend", 0), ("kind a fields abcdefghi\nmain\nend", 0), ("func a-b\nend\nmain\nend", 0),
    ("main\ttell\nend", 0), ("main\n~\nend", 1),
    # Kinds.
    ("kind\nmain\nend", 0), ("kind a b\nmain\nend", 0), ("kind a fields\nmain\nend", 0), ("kind a of\nmain\nend", 0),
    ("kind a\nkind b of a c\nmain\nend", 1), ("kind a\nkind b of a fields\nmain\nend", 1),
    ("kind a\nkind b of a of a\nmain\nend", 1), ("kind a\nkind b fields x of a\nkind b\nmain\nend", 2),
    ("kind a of b\nkind b\nmain\nend", 0), ("kind a of a\nmain\nend", 0), ("kind a of b\nmain\nend", 0),
    ("kind of of of\nmain\nend", 0), ("kind a of fields x\nmain\nend", 0),
    ("kind a\nkind a\nmain\nend", 1), ("kind a\nkind b\nkind a of b\nmain\nend", 2),
    ("kind a fields x y x\nmain\nend", 0), ("kind a fields x\nkind b of a fields y x\nmain\nend", 1),
    ("kind a fields x\nkind b of a fields y\nkind c of b fields x\nmain\nend", 2),
    ("func f\nend\nkind a\nmain\nend", 2), ("main\nkind a\nend", 1), ("main\nend\nkind a", 2),
    ("kind a\nfunc f\nkind b\nend\nmain\nend", 2),
    # Heads.
    ("func\nend\nmain\nend", 0), ("func main\nend\nmain\nend", 0), ("func main a\nend\nmain\nend", 0),
    ("func f keeps\nend\nmain\nend", 0), ("func f a keeps\nend\nmain\nend", 0), ("func keeps keeps\nend\nmain\nend", 0),
    ("func f\nend\nfunc f a\nend\nmain\nend", 2), ("func f a a\nend\nmain\nend", 0),
    ("func f a b a\nend\nmain\nend", 0), ("func f keeps a a\nend\nmain\nend", 0),
    ("func f a keeps a\nend\nmain\nend", 0), ("func f a b keeps c b\nend\nmain\nend", 0),
    ("func f keeps keeps keeps\nend\nmain\nend", 0),
    ("func f self\nend\nmain\nend", 0), ("func f keeps self\nend\nmain\nend", 0), ("func f a self b\nend\nmain\nend", 0),
    ("method\nend\nmain\nend", 0), ("kind a\nmethod a\nend\nmain\nend", 1), ("method a m\nend\nmain\nend", 0),
    ("kind a\nmethod b m\nend\nmain\nend", 1), ("kind a\nmethod a m self\nend\nmain\nend", 1),
    ("kind a\nmethod a m x x\nend\nmain\nend", 1), ("kind a\nmethod a m keeps keeps\nend\nmain\nend", 1),
    ("kind a\nmethod a m\nend\nfunc m\nend\nmethod a m x\nend\nmain\nend", 5),
    ("main a\nend", 0), ("main main\nend", 0), ("end\nmain\nend", 0), ("else\nmain\nend", 0), ("rest\nmain\nend", 0),
    ("func f\nend\nrest\nmain\nend", 2), ("func f\nend\nend\nmain\nend", 2), ("func f\nmain\nend\nmain\nend", 1),
    ("func f\nmethod a m\nend\nend\nmain\nend", 1), ("if choose\nend\nmain\nend", 0),
    # Behind main.
    ("main\nend\nend", 2), ("main\nend\nmain\nend", 2), ("main\nend\nfunc f\nend", 2), ("main\nend\nrest", 2),
    ("main\nrest\nend\n ", 3),
]

# In a main whose rows begin at row 10; the numbers are counted from there.
WRONG_WITHIN = [
    (["new x"], 0), (["new x a b"], 0), (["new x c"], 0), (["fresh x c"], 0), (["fresh x"], 0), (["row"], 0),
    (["row x y"], 0), (["func x"], 0), (["copy x"], 0), (["copy x y z"], 0), (["take x y"], 0), (["take x y z w"], 0),
    (["put x y"], 0), (["put x y z w"], 0), (["push x"], 0), (["push x y z"], 0), (["pull x"], 0), (["do x"], 0),
    (["ask x y"], 0), (["straight x y a"], 0), (["straight x y c m"], 0), (["give"], 0), (["give x y"], 0),
    (["tell"], 0), (["tell x y"], 0), (["rest x"], 0), (["check x"], 0), (["check x y z"], 0), (["own x y"], 0),
    (["own x y z w"], 0), (["place x y"], 0), (["place x y z w"], 0), (["any x"], 0), (["keeps"], 0), (["choose"], 0),
    (["some x"], 0), (["if"], 0), (["if x", "end"], 0), (["if choose x", "end"], 0), (["if some", "end"], 0),
    (["if some x y", "end"], 0), (["if same x", "end"], 0), (["if same x y z", "end"], 0), (["while", "end"], 0),
    (["while other x", "end"], 0), (["main"], 0), (["kind c"], 0), (["method a n", "end"], 0),
    (["else"], 0), (["rest", "else", "rest"], 1), (["while choose", "else", "end"], 1),
    (["if choose", "else", "else", "end"], 2), (["if choose", "else", "rest", "else", "end"], 3),
    (["if choose", "while choose", "else", "end", "end"], 2), (["if choose", "end", "else"], 2),
    (["if choose", "else x", "end"], 1), (["if choose", "end x"], 1), (["end"], 1), (["rest", "end", "rest"], 2),
    (["if choose", "end", "end"], 3),
    (["if choose"] * 9 + ["end"] * 9, 8), (["while choose"] * 9 + ["end"] * 9, 8),
    (["if choose", "else"] * 9 + ["end"] * 9, 16), (["if choose", "while choose"] * 5 + ["end"] * 10, 8),
    (["if choose"] * 8 + ["end", "if choose", "if choose"] + ["end"] * 9, 10),
    # Functions and methods, looked for last.
    (["func x h"], 0), (["func x main"], 0), (["func x a"], 0), (["func x m"], 0), (["func x f y"], 0),
    (["func x g"], 0), (["func x g y"], 0), (["func x g y y y"], 0), (["rest", "func x f", "func x h y"], 2),
    (["straight x y b m"], 0), (["straight x y a n"], 0), (["straight x y a f"], 0), (["straight x y b main"], 0),
    (["rest", "if choose", "straight x y a m", "straight x y b m", "end"], 3),
    # Two or three faults at once.
    (["func x h", "new x c"], 1), (["new x c", "func x h"], 0), (["straight x y b m", "rest x", "func x h"], 1),
    (["func x h", "straight x y b m"], 0), (["straight x y b m", "func x h"], 0), (["func x g", "func x h"], 0),
    (["straight x y c m", "straight x y b m"], 0), (["straight x y b m", "straight x y c m"], 1),
    (["func x h", "else"], 1), (["func x h", "end"], 2), (["func x f y", "if choose", "end", "end", "rest"], 4),
]


class NoProgramsTest(unittest.TestCase):
    def test_what_is_none(self):
        for text, line in WRONG:
            with self.subTest(text=text):
                self.assertEqual(at_line(text), line)

    def test_what_is_none_within(self):
        kinds = ["kind a fields p q", "kind b of a", "kind z"]
        for rows, line in WRONG_WITHIN:
            with self.subTest(rows=rows):
                self.assertEqual(at_line(around(rows, kinds)), 10 + line)

    def test_texts_that_end_too_early(self):
        for text in (EVERY, WORDS, BARE, around(["if choose", "else", "while choose", "end", "end"])):
            rows = text.split("\n")
            for many in range(1, len(rows)):
                self.assertEqual(at_line("\n".join(rows[:many])), many)

    def test_texts_with_a_row_too_many_behind(self):
        for row in ("", "rest", "end", "main", "kind a", "func f"):
            self.assertEqual(at_line(EVERY + "\n" + row), len(EVERY.split("\n")))

    def test_a_text_that_ends_too_early_ahead_of_functions_told_nowhere(self):
        self.assertEqual(at_line("main\nfunc x h"), 2)
        self.assertEqual(at_line("main\nstraight x y a m"), 1)
        self.assertEqual(at_line("kind a\nmain\nstraight x y a m"), 3)
        self.assertEqual(at_line("func f\nfunc x h\nend"), 3)
        self.assertEqual(at_line("func f\nfunc x h\nend\nmain\nend"), 1)
        self.assertEqual(at_line("func f\nfunc x h\nend\nmain\nend\nrest"), 5)

    def test_a_kept_number_of_a_function_told_ahead_is_looked_for_last(self):
        self.assertEqual(at_line("func f\nend\nfunc g\nfunc x f y\nend\nmain\ntell\nend"), 6)
        self.assertEqual(at_line("func f\nend\nfunc g\nfunc x f y\nend\nmain\nend"), 3)
        self.assertEqual(at_line("func g\nfunc x f y\nend\nfunc f\nend\nmain\nfunc x h\nend"), 1)

    def test_faults_in_either_order(self):
        self.assertEqual(at_line("kind a\nkind a\nmain\ntell\nend"), 1)
        self.assertEqual(at_line("kind a fields x x\nkind a\nmain\nend"), 0)
        self.assertEqual(at_line("func f\ntell\nend\nfunc f\nend\nmain\nend"), 1)
        self.assertEqual(at_line("func f\nend\nfunc f\ntell\nend\nmain\nend"), 2)
        self.assertEqual(at_line("func f\ntell\nend"), 1)

    def test_each_row_of_a_program_taken_away_or_doubled_is_read_or_refused(self):
        rows = EVERY.split("\n")
        for place in range(len(rows)):
            for text in ("\n".join(rows[:place] + rows[place + 1:]), "\n".join(rows[:place + 1] + rows[place:])):
                line = at_line(text)
                self.assertTrue(line is None or 0 <= line <= len(text.split("\n")))

    def test_the_refusal_is_of_its_own_class(self):
        with self.assertRaises(NoProgram) as caught:
            read_program("main")
        self.assertIs(type(caught.exception), NoProgram)
        self.assertIsInstance(caught.exception, PointError)
        self.assertEqual(caught.exception.line, 1)


if __name__ == "__main__":
    unittest.main()
