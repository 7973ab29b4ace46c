import unittest

from drawn import drawn_inputs, drawn_text, tame_text
from test_solver import calling_program, great_program, letters

from pointsure.apart import never_alike
from pointsure.changer import changed_by, chosen
from pointsure.demand import part_of
from pointsure.desk import Desk
from pointsure.errors import NoFact, NoProgram, NoRow, PointError, TooGreat
from pointsure.escapes import out_of, stays_by
from pointsure.keeper import Keeper
from pointsure.machine import run_program
from pointsure.reader import read_program
from pointsure.rows import body_names
from pointsure.solver import Told

# Behind each numbered row stands its number, which is taken away.
TEXT = """kind tree fields left right
kind leaf of tree
method tree grow much
new got leaf #0
new spare tree #1
put spare left much #2
give got #3
end
method leaf grow much
row list #4
push list list #5
give much #6
end
func pair one keeps more
tell more #7
give one #8
end
func lone
end
main
new a tree #9
new b leaf #10
func f pair a #11
do c f b #12
if choose #13
ask d a grow a #14
else
ask d b grow c #15
end
while choose #16
copy a b #17
end
put c right d #18
tell a #19
tell d #20
ask e d grow d #21
give e #22
end"""
TEXT = "\n".join(row.split(" #")[0] for row in TEXT.split("\n"))


def desk_with(text=TEXT):
    desk = Desk()
    desk.take_in(text)
    return desk


class AnswersTest(unittest.TestCase):
    def check(self, desk, pairs):
        for row, answer in pairs:
            with self.subTest(row=row):
                self.assertEqual(desk.say(row), answer)

    def test_run(self):
        self.check(desk_with(), [
            ("run 100", "tree tree leaf / given leaf"),
            ("run 100 1", "tree tree leaf / given leaf"),
            ("run 100 -1 0", "tree tree leaf / given leaf"),
            ("run 100 0 5 -7 999999999999 0", "tree leaf leaf / given leaf"),
            ("run 0", "/ dry"), ("run 4", "/ dry"), ("run 5", "tree / dry"), ("run 100 0", "tree tree leaf / given leaf"),
            ("run 999999999999", "tree tree leaf / given leaf")])

    def test_inputs_below_0_are_none_that_are_0(self):
        desk = desk_with("main\nwhile choose\nrow x\ntell x\nend\ngive y\nend")
        self.check(desk, [
            ("run 9 -1 -999999999999 0", "row row / given none"), ("run 9 0 -1", "/ given none"), ("run 9", "/ given none"),
            ("run 9 1 2", "row row / given none"), ("run 2 1", "/ dry"), ("run 3 1", "row / dry")])

    def test_ends(self):
        for rows, answer in (("take x y f", "/ fault 0 none"), ("row y\nrest\ntake x y f", "/ fault 2 sort"),
                             ("new y a\ntell y\ntake x y f", "a / fault 2 field"), ("new y a\nask x y m", "/ fault 1 method"),
                             ("fresh y a\ngive y", "/ given a"), ("func y g\ndo x y x", "/ fault 1 count"),
                             ("func y g\ntell y\ngive y", "g / given g"), ("rest", "/ given none")):
            self.assertEqual(desk_with(f"kind a\nfunc g\nend\nmain\n{rows}\nend").say("run 50"), answer)
        deep = "func g f\ndo x f f\nend\nmain\nfunc f g\ntell f\ndo x f f\nend"
        self.assertEqual(desk_with(deep).say("run 50"), "g / deep 0")
        self.assertEqual(desk_with("main\nend").say("run 0"), "/ given none")

    def test_holds(self):
        self.check(desk_with(), [
            ("holds main a", "9 10"), ("holds main b", "10"), ("holds main c", "10"), ("holds main d", "0 9 10"),
            ("holds main e", "0 9 10"), ("holds main f", "11"), ("holds pair one", "10"), ("holds pair more", "9 10"),
            ("holds tree.grow self", "9"), ("holds leaf.grow self", "0 10"), ("holds leaf.grow list", "4"),
            ("holds tree.grow spare", "1")])

    def test_holds_nothing(self):
        desk = desk_with("kind a\nfunc g one\nnew y a\nend\nmain\ntell x\nfresh y a\nend")
        self.check(desk, [("holds main x", ""), ("holds main y", ""), ("holds g one", ""), ("holds g y", "")])

    def test_goes(self):
        self.check(desk_with(), [
            ("goes 12", "pair"), ("goes 14", "leaf.grow tree.grow"), ("goes 15", "leaf.grow"), ("goes 21", "leaf.grow tree.grow"),
            ("goes 0", ""), ("goes 13", ""), ("goes 22", "")])
        self.check(desk_with("main\ndo x y\nask x y m\nend"), [("goes 0", ""), ("goes 1", "")])

    def test_paper(self):
        desk = desk_with("main\nrow x\ncopy y x\ncopy z y\nrow z\nend")
        self.check(desk, [
            ("paper main x 0", "-1 0"), ("paper main y 0", "-1 0 1"), ("paper main z 0", "-1 0 1 2"), ("paper main z 3", "-1 3")])
        desk = desk_with()
        program = read_program(TEXT)
        told = Told(program)
        for body, x, row in (("main", "e", 9), ("pair", "more", 9), ("leaf.grow", "self", 0), ("main", "d", 0)):
            paper = told.paper(("holds", ("local", body, (), x), (row, ())))
            self.assertEqual(desk.say(f"paper {body} {x} {row}"), " ".join(str(one[1]) for one in paper))

    def test_no_fact_behind_all_no_row(self):
        desk = desk_with()
        for row in ("paper main a 11", "paper main a 12", "paper main a 0", "paper pair one 9", "paper main a 22"):
            with self.assertRaises(NoFact) as caught:
                desk.say(row)
            self.assertIs(type(caught.exception), NoFact)
        for row in ("paper main a 23", "paper main z 9", "paper any a 9", "paper main a 011", "paper main a", "paper main a 9 9",
                    "paper main a -1", "paper main a x"):
            self.assertRaises(NoRow, desk.say, row)
        self.assertEqual(desk.say("paper main a 9"), "-1 9")

    def test_alike(self):
        self.check(desk_with(), [
            ("alike main a f", "never"), ("alike main f a", "never"), ("alike main a b", "perhaps"),
            ("alike main b a", "perhaps"), ("alike main a a", "perhaps"), ("alike tree.grow got spare", "never"),
            ("alike leaf.grow list self", "never"), ("alike pair one more", "perhaps")])
        self.check(desk_with("main\ntell x\nrow y\nend"), [("alike main x x", "never"), ("alike main x y", "never")])

    def test_hangs(self):
        desk = desk_with("func g keeps k\nend\nmain\nrow x\ncopy y x\ncopy z y\npush x y\npull w z\nfunc f g w\nend")
        self.check(desk, [("hangs main x", "2"), ("hangs main y", "3"), ("hangs main z", "4"), ("hangs main w", "6"),
                          ("hangs main f", "2"), ("hangs g k", "9")])

    def test_stays(self):
        self.check(desk_with(), [("stays tree.grow", "1"), ("stays leaf.grow", "4"), ("stays pair", ""), ("stays lone", ""),
                                 ("stays main", "11")])
        self.check(desk_with("main\nrow x\nrow y\ngive z\nend"), [("stays main", "0 1")])

    def test_changes_and_change(self):
        desk = desk_with()
        self.check(desk, [
            ("changes", "1 apart; 15 straight leaf; 18 unread"), ("text", TEXT), ("holds tree.grow spare", "1"), ("change", "ok"),
            ("text", TEXT.replace("new spare", "fresh spare").replace("put spare", "place spare")
             .replace("ask d b grow c", "straight d b leaf grow c").replace("put c right d", "check c right")),
            ("holds tree.grow spare", ""), ("stays tree.grow", ""), ("goes 15", "leaf.grow"), ("changes", ""), ("change", "ok"),
            ("run 100", "tree tree leaf / given leaf")])
        self.assertTrue(desk.say("text").startswith("kind tree fields left right\nkind leaf of tree\nmethod"))

    def test_changes_of_none_and_of_one(self):
        self.check(desk_with("main\nend"), [("changes", ""), ("change", "ok"), ("text", "main\nend")])
        self.check(desk_with("kind a\nmain\nnew x a\nend"), [
            ("changes", "0 apart"), ("change", "ok"), ("changes", ""), ("text", "kind a\nmain\nfresh x a\nend")])

    def test_row(self):
        desk = desk_with("main\nrow x\ncopy y x\ncopy z y\nend")
        self.check(desk, [
            ("row 1 copy y w", "2 2 0"), ("text", "main\nrow x\ncopy y w\ncopy z y\nend"), ("holds main y", ""),
            ("row 1 pull y y", "2 0 0"), ("row 1 copy y x", "2 0 2"), ("row 1 copy y x", "2 0 0"), ("holds main z", "0"),
            ("row 0 row w", "1 3 1"), ("holds main w", "0"), ("holds main z", ""), ("row 0 rest", "1 1 0"),
            ("text", "main\nrest\ncopy y x\ncopy z y\nend")])

    def test_a_body_called_like_others(self):
        desk = desk_with("kind main fields main\nmethod main main main\ngive main\nend\nfunc row text\ngive text\nend\n"
                         "main\nnew main main\nask row main main main\nfunc run row\ndo run run main\nend")
        self.check(desk, [
            ("holds main main", "2"), ("holds main.main main", "2"), ("holds main row", "2"), ("holds main run", "2 4"),
            ("goes 3", "main.main"), ("goes 5", "row"), ("stays row", ""), ("holds row text", "2")])


class RefusedTest(unittest.TestCase):
    def check_no_row(self, desk, row):
        with self.subTest(row=row):
            with self.assertRaises(NoRow) as caught:
                desk.say(row)
            self.assertIs(type(caught.exception), NoRow)
            self.assertIsInstance(caught.exception, PointError)

    def test_ahead_of_the_first_program(self):
        desk = Desk()
        rows = ("text", "changes", "change", "run 5", "holds main x", "row 0 rest", "", "any", None)
        for row in rows:
            self.check_no_row(desk, row)
        self.assertRaises(NoProgram, desk.take_in, "main\nend\n")
        self.assertRaises(TooGreat, desk.take_in, great_program(20).shown())
        for row in rows:
            self.check_no_row(desk, row)
        self.assertIsNone(desk.take_in("main\nend"))
        self.assertEqual(desk.say("text"), "main\nend")

    def test_what_is_no_text(self):
        for row in (None, 0, 5, True, ["text"], ("text",), {"text": 1}, b"text", ["run", "5"], object(), Desk):
            self.check_no_row(desk_with(), row)

    def test_words_too_few_or_too_many(self):
        desk = desk_with()
        for row in ("run", "holds", "holds main", "holds main a b", "holds main a ", "goes", "goes 12 13", "paper", "paper main",
                    "paper main a", "paper main a 9 9", "alike", "alike main", "alike main a", "alike main a b c", "hangs",
                    "hangs main", "hangs main a b", "stays", "stays main a", "changes now", "change all", "row", "row 17",
                    "text all", "change 1", "changes 1"):
            self.check_no_row(desk, row)
        self.assertEqual(desk.say("text"), TEXT)

    def test_blanks(self):
        desk = desk_with()
        for row in ("", " ", "  ", " text", "text ", "run  5", "run 5 ", " run 5", "run 5  1", "run 5 1 ", "holds  main a",
                    "holds main  a", " holds main a", "holds main a ", "goes  12", "stays main ", "changes ", " changes",
                    "change ", " change", "row 17 rest ", "row  17 rest", "row 17  rest", "row 17 copy  a b", "text\n", "\ntext",
                    "holds main a\n", "holds\tmain\ta", "run 5\n", "stays main\n", "row 17 rest\n", "change\n", "run\n5"):
            self.check_no_row(desk, row)
        self.assertEqual(desk.say("text"), TEXT)

    def test_no_such_row(self):
        for row in ("any", "Text", "TEXT", "hold main a", "holds? main a", "facts", "take_in", "end", "give a", "/", "0", "say"):
            self.check_no_row(desk_with(), row)

    def test_bodies_and_names(self):
        desk = desk_with()
        for body in ("any", "tree", "grow", "tree.any", "grow.tree", "leaf.grow.", ".grow", "Main", "tree.grow.self", "", "kind"):
            for row in (f"holds {body} self", f"paper {body} self 9", f"alike {body} self self", f"hangs {body} self",
                        f"stays {body}"):
                self.check_no_row(desk, row)
        # Names of other bodies, own fields, kinds, fields, methods, functions, numbers.
        for x in ("one", "more", "self", "list", "got", "zz", "a.left", "left", "tree", "leaf", "grow", "pair", "9", "", "A"):
            for row in (f"holds main {x}", f"paper main {x} 9", f"alike main a {x}", f"alike main {x} a", f"hangs main {x}"):
                self.check_no_row(desk, row)
        for row in ("holds pair self", "holds pair a", "holds tree.grow one", "holds lone one", "holds lone self"):
            self.check_no_row(desk, row)

    def test_names_of_every_place_of_a_row(self):
        desk = desk_with("kind a fields p\nmethod a m ka kb\nend\nfunc g kc keeps kd\nend\nmain\nnew x a\nrow ba\nfunc bb g bc\n"
                         "copy ca cb\ntake da db dc\nput ea eb ec\npush fa fb\npull ga gb\ndo ha hb hc hd\nask ia ib ic id\n"
                         "straight ja jb a m jc\ntell la\ncheck ma mb\nfresh na a\nown oa ob oc\nplace pa pb pc\n"
                         "if some qa\nelse\nwhile same qb qc\nend\nend\ngive ra\nend")
        names = ("x ba bb bc ca cb da db ea ec fa fb ga gb ha hb hc hd ia ib id ja jb jc la ma na oa ob pa pc qa qb qc ra")
        for x in names.split(" "):
            self.assertIn(desk.say(f"holds main {x}"), ("", "0", "1", "2"))
        for x in ("a", "m", "g", "dc", "eb", "ic", "mb", "oc", "pb", "ka", "kc", "kd", "some", "choose", "same", "self"):
            self.check_no_row(desk, f"holds main {x}")
        for body, x in (("a.m", "self"), ("a.m", "ka"), ("a.m", "kb"), ("g", "kc"), ("g", "kd")):
            self.assertEqual(desk.say(f"holds {body} {x}"), "")
        self.check_no_row(desk, "holds g self")
        self.check_no_row(desk, "holds g keeps")

    def test_numbers(self):
        desk = desk_with()
        wrong = ["", "00", "01", "007", "-0", "-1", "-5", "+1", "1.0", "1e3", "1_0", "x", "0x1", "1234567890123", "0000000000001",
                 "--1", "-", "1-", "\u0661", "\u00b2", "\uff11", "\u00bd", "1\n", "\n1", "1,"]
        for number in wrong:
            for row in (f"run {number}", f"run {number} 1", f"goes {number}", f"paper main a {number}", f"row {number} rest"):
                self.check_no_row(desk, row)
        for number in wrong + ["-00", "-01", "-1234567890123", "-\u0661", "- 1", "-x"]:
            if number not in ("-1", "-5"):
                self.check_no_row(desk, f"run 5 {number}")
                self.check_no_row(desk, f"run 5 0 {number} 1")
        self.assertEqual(desk.say("run 0 0 -1 123456789012 -123456789012 10 -10"), "/ dry")
        self.assertEqual(desk.say("text"), TEXT)

    def test_numbers_of_no_row(self):
        desk = desk_with()
        for number in (23, 24, 100, 999999999999):
            for row in (f"goes {number}", f"paper main a {number}", f"row {number} rest"):
                self.check_no_row(desk, row)

    def test_rows_put_otherwise(self):
        desk = desk_with()
        for row in ("row 13 rest", "row 16 rest", "row 17 if choose", "row 17 while choose", "row 17 else", "row 17 end",
                    "row 17 tell A", "row 17 tell a1", "row 17 copy a.b c", "row 17 -", "row rest 17", "row rest",
                    "row 13 any", "row 99 any"):
            self.check_no_row(desk, row)
        for row in ("row 17 any", "row 17 tell", "row 17 copy a abcdefghi", "row 17 func x any", "row 17 straight a b leaf any",
                    "row 17 main", "row 17 new a any"):
            with self.assertRaises(NoProgram) as caught:
                desk.say(row)
            self.assertEqual(caught.exception.line, TEXT.split("\n").index("copy a b"))
        self.assertEqual(desk.say("text"), TEXT)
        self.assertEqual(desk.say("holds main a"), "9 10")


class StaysAsItWasTest(unittest.TestCase):
    def test_texts_that_are_no_program(self):
        desk = desk_with()
        for text, line in (("", 0), ("main\nend\n", 2), ("main", 1), ("main\nany\nend", 1), ("main\nfunc x g\nend", 1)):
            with self.assertRaises(NoProgram) as caught:
                desk.take_in(text)
            self.assertEqual(caught.exception.line, line)
            self.assertEqual(desk.say("text"), TEXT)
            self.assertEqual(desk.say("holds main a"), "9 10")

    def test_texts_with_too_many_facts(self):
        desk = desk_with()
        with self.assertRaises(TooGreat) as caught:
            desk.take_in(great_program(20).shown())
        self.assertIs(type(caught.exception), TooGreat)
        self.assertEqual(desk.say("text"), TEXT)
        self.assertEqual(desk.say("holds main a"), "9 10")
        # By fineness 0 these calls are few.
        desk.take_in(calling_program(70).shown())
        self.assertEqual(desk.say("goes 1"), "f")

    def test_a_row_with_too_many_facts(self):
        program = great_program(19)
        desk = desk_with(program.shown())
        last = program.many_rows() - 1
        self.assertRaises(TooGreat, desk.say, f"row {last} copy {letters(2000)} {letters(0)}")
        self.assertEqual(desk.say("text"), program.shown())
        self.assertEqual(desk.say(f"holds main {letters(1018)}"), str(last))
        self.assertEqual(desk.say(f"row {last} rest"), "5999 1 0")

    def test_a_change_behind_which_there_are_too_many_facts(self):
        # Marks tell own fields that the kind does not have, too; the twenty things come to z then, one by one.
        text = "kind a\nmain\n" + great_program(0).shown().split("\n", 1)[1][:-4] + "\nnew x a\nput x any aaa\ntake z x any\nend"
        desk = desk_with(text)
        self.assertEqual(desk.say("changes"), "318 apart")
        self.assertRaises(TooGreat, desk.say, "change")
        self.assertEqual(desk.say("text"), text)
        self.assertEqual(desk.say("holds main x"), "318")

    def test_a_new_program(self):
        desk = desk_with()
        desk.say("row 17 rest")
        self.assertIsNone(desk.take_in("main\nrow x\nend"))
        self.assertEqual(desk.say("text"), "main\nrow x\nend")
        self.assertEqual(desk.say("holds main x"), "0")
        self.assertRaises(NoRow, desk.say, "holds main a")

    def test_two_desks(self):
        one, other = desk_with(), desk_with()
        third = Desk()
        one.say("row 17 rest")
        one.say("change")
        self.assertEqual(other.say("text"), TEXT)
        self.assertEqual(other.say("holds main a"), "9 10")
        self.assertEqual(one.say("holds main a"), "9")
        self.assertRaises(NoRow, third.say, "text")

    def test_questions_change_nothing(self):
        desk = desk_with()
        for row in ("run 50 1", "changes", "holds main a", "goes 14", "paper main a 9", "alike main a b", "hangs main a",
                    "stays main", "text"):
            answer = desk.say(row)
            self.assertEqual(desk.say(row), answer)
        self.assertEqual(desk.say("text"), TEXT)


class DrawnTest(unittest.TestCase):
    def check_answers(self, desk, seed):
        """All answers held against what the modules tell of the desk's program."""
        program = read_program(desk.say("text"))
        told = Told(program)
        facts = told.facts()
        for body in program.bodies():
            self.assertEqual(desk.say(f"stays {body}"), " ".join(map(str, stays_by(program, body, out_of(program, facts, body)))))
            names = body_names(program, body)
            for x in names[:4]:
                name = ("local", body, (), x)
                rows = [thing[0] for thing in told.holds(name)]
                self.assertEqual(desk.say(f"holds {body} {x}"), " ".join(map(str, rows)))
                for row in rows[:2]:
                    paper = told.paper(("holds", name, (row, ())))
                    self.assertEqual(desk.say(f"paper {body} {x} {row}"), " ".join(str(one[1]) for one in paper))
                never = never_alike(facts, name, ("local", body, (), names[0]))
                self.assertEqual(desk.say(f"alike {body} {x} {names[0]}"), "never" if never else "perhaps")
            for x in names[:1]:
                self.assertEqual(desk.say(f"hangs {body} {x}"), str(len(part_of(program, ("local", body, x)))))
        for number in range(0, program.many_rows(), 5):
            goals = sorted(fact[3] for fact in facts if fact[0] == "goes" and fact[1] == number)
            self.assertEqual(desk.say(f"goes {number}"), " ".join(goals))
        inputs = drawn_inputs(seed)
        texts, end = run_program(program, inputs, 90)
        self.assertEqual(desk.say(" ".join(["run", "90"] + [str(one) for one in inputs])),
                         " ".join(texts + ["/"] + [str(one) for one in end]))
        changes = [f"{row} {word} {kind}".strip() for row, word, kind in chosen(program, facts)]
        self.assertEqual(desk.say("changes"), "; ".join(changes))

    def test_drawn_ones(self):
        for seed in range(14):
            program = read_program((tame_text if seed % 2 else drawn_text)(seed))
            desk = desk_with(program.shown())
            self.check_answers(desk, seed)
            plain = [n for n in range(program.many_rows()) if program.row_words(n)[0] not in ("if", "while")]
            keeper = Keeper(program)
            for number in plain[seed % 3::9][:4]:
                words = program.row_words(plain[(number * 7) % len(plain)])
                counts = [len(facts) for facts in keeper.put_otherwise(number, words)]
                self.assertEqual(desk.say(" ".join(["row", str(number)] + words)), " ".join(map(str, counts)))
            self.assertEqual(desk.say("text"), keeper.stands().shown())
            self.check_answers(desk, seed)
            program, facts = keeper.stands(), keeper.facts()
            self.assertEqual(desk.say("change"), "ok")
            self.assertEqual(desk.say("text"), changed_by(program, facts, chosen(program, facts)).shown())
            self.check_answers(desk, seed)


if __name__ == "__main__":
    unittest.main()
