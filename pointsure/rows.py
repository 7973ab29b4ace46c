"""The forms of the rows of bodies, and what each of their words is [5]; the names of a body [8]."""

from pointsure.kinds import is_method_body, kept_of, params_of
from pointsure.tables import known_of

# By a row's first word, what the words behind it are. X, Y and A are names; A stands for any number of them.
FORMS = {
    "new": ("X", "KIND"),
    "row": ("X",),
    "func": ("X", "FUNCTION", "A"),
    "copy": ("X", "Y"),
    "take": ("X", "Y", "FIELD"),
    "put": ("Y", "FIELD", "X"),
    "push": ("Y", "X"),
    "pull": ("X", "Y"),
    "do": ("X", "Y", "A"),
    "ask": ("X", "Y", "METHOD", "A"),
    "straight": ("X", "Y", "KIND", "METHOD", "A"),
    "give": ("X",),
    "tell": ("X",),
    "rest": (),
    "check": ("Y", "FIELD"),
    "fresh": ("X", "KIND"),
    "own": ("X", "Y", "FIELD"),
    "place": ("Y", "FIELD", "X"),
}

# The same, by the word behind `if` and `while`.
CONDITIONS = {
    "choose": (),
    "some": ("X",),
    "same": ("X", "Y"),
}

BLOCK_WORDS = ("if", "while")
MAKERS = ("new", "row", "func")
CALLERS = ("do", "ask", "straight")
GIVERS = ("new", "row", "func", "copy", "take", "pull", "do", "ask", "straight", "fresh", "own")


class Row:
    """A row of a body, each of its words by what it is; None, where the form has no such word."""

    def __init__(self, words):
        parts = dict(parts_of(words))
        self.word = words[0]
        self.condition = parts.get("CONDITION")
        self.x = parts.get("X")
        self.y = parts.get("Y")
        self.kind = parts.get("KIND")
        self.field = parts.get("FIELD")
        self.method = parts.get("METHOD")
        self.function = parts.get("FUNCTION")
        self.handed = [word for part, word in parts_of(words) if part == "A"]
        self.names = [word for part, word in parts_of(words) if part in ("X", "Y", "A")]


def is_letters(word):
    """Whether it is one or more letters from a to z."""
    for sign in word:
        if not "a" <= sign <= "z":
            return False
    return word != ""


def is_name(word):
    """Whether it is one to eight such letters."""
    return len(word) <= 8 and is_letters(word)


def is_row(words):
    """Whether the words have the form of a row of a body that has a number."""
    if not words or not all([is_name(word) for word in words]):
        return False
    form = form_of(words)
    if form is None:
        return False
    if form and form[-1] == "A":
        return len(words) >= len(form)
    return len(words) == len(form) + 1


def form_of(words):
    """What the words behind the first one should be, or None, where no form begins so."""
    if words[0] in BLOCK_WORDS:
        if len(words) > 1 and words[1] in CONDITIONS:
            return ("CONDITION",) + CONDITIONS[words[1]]
        return None
    return FORMS.get(words[0])


def parts_of(words):
    """Of a row's words behind the first one: pairs of what the word is, and the word."""
    form = list(form_of(words))
    while len(form) < len(words) - 1:
        form.append("A")
    # A form may end with an A that no word stands for.
    return list(zip(form, words[1:]))


def given_name_of(row):
    """The name to which the row gives a value, or None."""
    if row.word in GIVERS:
        return row.x
    return None


def body_names(program, body):
    """The names of the body, each once: its parameters, self, what it keeps, then those of its rows."""
    names = params_of(program, body) + kept_of(program, body)
    if is_method_body(body):
        names.append("self")
    for number in range(program.many_rows()):
        if program.row_body(number) == body:
            names.extend(Row(program.row_words(number)).names)
    return list(known_of(names))
