"""The desk, which has a program and answers rows of words with texts [31]."""

from pointsure.apart import never_alike
from pointsure.changer import changed_by, chosen
from pointsure.demand import part_of
from pointsure.errors import NoRow
from pointsure.escapes import out_of, stays_by
from pointsure.facts import holds_fact, local_name, thing_at
from pointsure.keeper import Keeper
from pointsure.machine import run_program
from pointsure.reader import read_program
from pointsure.rows import body_names

MOST_FIGURES = 12
FIGURES = "0123456789"

# By a row's first word, how many words stand behind it: at least, and at most, or None for any number of them.
COUNTS = {
    "run": (1, None),
    "holds": (2, 2),
    "goes": (1, 1),
    "paper": (3, 3),
    "alike": (3, 3),
    "hangs": (2, 2),
    "stays": (1, 1),
    "changes": (0, 0),
    "change": (0, 0),
    "row": (1, None),
    "text": (0, 0),
}


def is_number(word):
    """Whether the word is a number as it is to be written."""
    if not 1 <= len(word) <= MOST_FIGURES or (word[0] == "0" and word != "0"):
        return False
    return all([sign in FIGURES for sign in word])


def number_of(word):
    """The number that the word tells, or NoRow."""
    if not is_number(word):
        raise NoRow("no number")
    return int(word)


def input_of(word):
    """The input that the word tells, perhaps one below 0, or NoRow."""
    if word.startswith("-") and word != "-0":
        return -number_of(word[1:])
    return number_of(word)


def row_of(program, word):
    """The number of a row that the word tells, or NoRow."""
    number = number_of(word)
    if number >= program.many_rows():
        raise NoRow("no row has this number")
    return number


def body_of(program, word):
    """The body that the word tells, or NoRow."""
    if word not in program.bodies():
        raise NoRow("no body")
    return word


def local_of(program, body, x):
    """The local that the words tell, or NoRow."""
    if x not in body_names(program, body_of(program, body)):
        raise NoRow("no name of the body")
    return local_name(body, (), x)


def joined(parts):
    """Numbers and texts with single blanks between."""
    return " ".join([str(part) for part in parts])


def answer_run(desk, words):
    """What a run tells, and its end."""
    fuel = number_of(words[0])
    inputs = [input_of(word) for word in words[1:]]
    outcome = run_program(desk.keeper.stands(), inputs, fuel)
    return joined(outcome[0] + ["/"] + list(outcome[1]))


def answer_holds(desk, words):
    """The rows of the things that the local holds."""
    name = local_of(desk.keeper.stands(), words[0], words[1])
    return joined([thing[0] for thing in desk.keeper.solved.holds(name)])


def answer_goes(desk, words):
    """The bodies that the row may call."""
    number = row_of(desk.keeper.stands(), words[0])
    return joined(sorted([fact[3] for fact in desk.keeper.facts() if fact[:2] == ("goes", number)]))


def answer_paper(desk, words):
    """The rows of the paper of what the local holds, or NoFact."""
    program = desk.keeper.stands()
    name = local_of(program, words[0], words[1])
    thing = thing_at(row_of(program, words[2]), ())
    return joined([instance[1] for instance in desk.keeper.solved.paper(holds_fact(name, thing))])


def answer_alike(desk, words):
    """Whether the two names never are the same thing."""
    program = desk.keeper.stands()
    one = local_of(program, words[0], words[1])
    other = local_of(program, words[0], words[2])
    return "never" if never_alike(desk.keeper.facts(), one, other) else "perhaps"


def answer_hangs(desk, words):
    """How many wants the local's part has."""
    program = desk.keeper.stands()
    name = local_of(program, words[0], words[1])
    return str(len(part_of(program, ("local", name[1], name[3]))))


def answer_stays(desk, words):
    """The rows that stay within the body."""
    program = desk.keeper.stands()
    body = body_of(program, words[0])
    return joined(stays_by(program, body, out_of(program, desk.keeper.facts(), body)))


def answer_changes(desk, words):
    """The chosen changes."""
    told = []
    for change in chosen(desk.keeper.stands(), desk.keeper.facts()):
        # The kind is empty but for straight, and then no blank stands behind the word.
        told.append(joined([part for part in change if part != ""]))
    return "; ".join(told)


def answer_change(desk, words):
    """All chosen changes are made."""
    program = desk.keeper.stands()
    facts = desk.keeper.facts()
    desk.keeper = Keeper(changed_by(program, facts, chosen(program, facts)))
    return "ok"


def answer_row(desk, words):
    """How many facts stayed, went and came by a row put otherwise."""
    parts = desk.keeper.put_otherwise(number_of(words[0]), words[1:])
    return joined([len(facts) for facts in parts])


def answer_text(desk, words):
    """The program's text."""
    return desk.keeper.stands().shown()


ANSWERS = {
    "run": answer_run,
    "holds": answer_holds,
    "goes": answer_goes,
    "paper": answer_paper,
    "alike": answer_alike,
    "hangs": answer_hangs,
    "stays": answer_stays,
    "changes": answer_changes,
    "change": answer_change,
    "row": answer_row,
    "text": answer_text,
}


def is_desk_row(words):
    """Whether such a row is listed, with so many words."""
    if words[0] not in COUNTS:
        return False
    least = COUNTS[words[0]][0]
    most = COUNTS[words[0]][1]
    return least < len(words) and (most is None or len(words) <= most + 1)


class Desk:
    """A desk, without a program at first; then its keeper has it."""

    def __init__(self):
        self.keeper = None

    def take_in(self, text):
        """The desk has this program then; NoProgram or TooGreat, and it stays as it was."""
        self.keeper = Keeper(read_program(text))

    def say(self, row):
        """The answer to the row, or NoRow."""
        if self.keeper is None or not isinstance(row, str):
            raise NoRow("no row, or no program yet")
        words = row.split(" ")
        if not is_desk_row(words):
            raise NoRow("no such row")
        return ANSWERS[words[0]](self, words[1:])
