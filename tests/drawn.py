"""Programs drawn by chance, the same ones each time: every form of row, names mostly used for one sort of value."""

import random

from pointsure.calls import calls_behind, goals_of
from pointsure.kinds import fields_of, kept_of
from pointsure.outline import Outline

RECORDS = ["ra", "rb", "rc"]
LISTS = ["la", "lb"]
FUNCS = ["fa", "fb"]
MARKS = ["ma", "mb"]
KINDS = ["tree", "leaf", "of", "end"]
FIELDS = ["f", "g", "fields", "end"]
METHODS = ["get", "set", "main", "keeps"]
FUNCTIONS = ["pair", "join", "rest"]
# Names that tame programs use for little, and the place of Y in the rows that need one.
LONE = ["sa", "sb", "sc"]
ASKED = {"take": 2, "put": 1, "check": 1, "push": 1, "pull": 2, "do": 2, "ask": 2, "straight": 2, "own": 2, "place": 1}


class Draw:
    def __init__(self, seed, many=14, wild=0.1):
        self.chance = random.Random(seed)
        self.wild = wild
        self.many = many
        self.kinds = []
        self.fields = {}
        self.functions = {}
        self.methods = {}

    def one(self, choices):
        return self.chance.choice(choices)

    def name(self, names):
        if self.chance.random() < self.wild:
            return self.one(RECORDS + LISTS + FUNCS + MARKS + ["x", "self"])
        return self.one(names)

    def any_name(self):
        return self.one(RECORDS + RECORDS + LISTS + FUNCS + ["x"])

    def field(self):
        return self.one(self.fields[self.one(self.kinds)] + FIELDS[:1])

    def kind_rows(self):
        rows = []
        for kind in KINDS[:self.chance.randint(1, 4)]:
            row = "kind " + kind
            fields = []
            if self.kinds and self.chance.random() < 0.6:
                elder = self.one(self.kinds)
                row += " of " + elder
                fields = list(self.fields[elder])
            own = [field for field in FIELDS if field not in fields and self.chance.random() < 0.5]
            if own:
                row += " fields " + " ".join(own)
            self.kinds.append(kind)
            self.fields[kind] = fields + own
            rows.append(row)
        return rows

    def heads(self):
        heads = []
        for name in FUNCTIONS[:self.one([0, 1, 2, 3, 3])]:
            names = self.chance.sample(RECORDS + LISTS + FUNCS + ["x"], self.chance.randint(0, 3))
            kept = names[self.chance.randint(0, len(names)):]
            params = names[:len(names) - len(kept)]
            self.functions[name] = (params, kept)
            heads.append(" ".join(["func", name] + params + (["keeps"] + kept if kept else [])))
        for kind in self.kinds:
            for method in METHODS:
                if self.chance.random() < 0.45:
                    params = self.chance.sample(RECORDS + LISTS + ["keeps"], self.chance.randint(0, 2))
                    self.methods[(kind, method)] = params
                    heads.append(" ".join(["method", kind, method] + params))
        self.chance.shuffle(heads)
        return heads + ["main"]

    def handed(self, many):
        if self.chance.random() < self.wild / 3:
            many += 1
        return [self.any_name() for number in range(many)]

    def plain_row(self):
        word = self.one("new new row func copy take take put put push pull pull do do ask ask ask straight give tell tell"
                        " rest check fresh own place place copy".split())
        record = self.name(RECORDS + ["self"])
        field = self.field()
        if word in ("new", "fresh"):
            return [word, self.name(RECORDS if word == "new" else MARKS), self.one(self.kinds)]
        if word == "row":
            return [word, self.name(LISTS)]
        if word == "func" and self.functions:
            name = self.one(sorted(self.functions))
            return [word, self.name(FUNCS), name] + [self.any_name() for kept in self.functions[name][1]]
        if word == "copy":
            names = self.one([RECORDS, RECORDS, LISTS, FUNCS, MARKS])
            return [word, self.name(names), self.name(names)]
        if word == "take":
            return [word, self.name(RECORDS), record, field]
        if word == "put":
            return [word, record, field, self.any_name()]
        if word == "check":
            return [word, record, field]
        if word == "own":
            return [word, self.name(RECORDS), self.name(MARKS), field]
        if word == "place":
            return [word, self.name(MARKS), field, self.any_name()]
        if word == "push":
            return [word, self.name(LISTS), self.any_name()]
        if word == "pull":
            return [word, self.name(RECORDS), self.name(LISTS)]
        if word == "do" and self.functions:
            many = len(self.functions[self.one(sorted(self.functions))][0])
            return [word, self.name(RECORDS), self.name(FUNCS)] + self.handed(many)
        if word in ("ask", "straight") and self.methods:
            kind, method = self.one(sorted(self.methods))
            middle = [kind, method] if word == "straight" else [method]
            return [word, self.name(RECORDS), record] + middle + self.handed(len(self.methods[(kind, method)]))
        if word == "give" and self.chance.random() < 0.5:
            return [word, self.any_name()]
        if word == "tell":
            return [word, self.name(RECORDS + LISTS + FUNCS + MARKS)]
        return ["rest"]

    def condition(self):
        kind = self.one(["choose", "choose", "some", "same"])
        if kind == "choose":
            return [kind]
        return [kind] + [self.name(RECORDS + LISTS + MARKS) for number in range(1 if kind == "some" else 2)]

    def block(self, many, depth):
        rows = []
        for number in range(many):
            roll = self.chance.random()
            if depth < 3 and roll < 0.08:
                rows.append(" ".join(["while"] + self.condition()))
                rows += self.block(self.chance.randint(0, 3), depth + 1) + ["end"]
            elif depth < 3 and roll < 0.18:
                rows.append(" ".join(["if"] + self.condition()))
                rows += self.block(self.chance.randint(0, 3), depth + 1)
                if self.chance.random() < 0.5:
                    rows += ["else"] + self.block(self.chance.randint(0, 3), depth + 1)
                rows.append("end")
            else:
                rows += self.guarded(self.plain_row())
        return rows

    def guarded(self, words):
        return [" ".join(words)]

    def opening(self):
        """Rows that make something of each sort, so that a run comes further."""
        rows = []
        for name in RECORDS:
            rows.append(f"new {name} {self.one(self.kinds)}")
        for name in LISTS:
            rows.append(f"row {name}")
        for name in FUNCS:
            if self.functions:
                function = self.one(sorted(self.functions))
                rows.append(" ".join(["func", name, function] + [self.any_name() for k in self.functions[function][1]]))
        for name in MARKS:
            rows.append(f"fresh {name} {self.one(self.kinds)}")
        return [row for row in rows if self.chance.random() < 0.8]

    def few_rows(self):
        return self.chance.sample(self.opening(), 2)

    def ending(self):
        return []

    def text(self):
        rows = self.kind_rows()
        for head in self.heads():
            rows.append(head)
            if head == "main":
                rows += self.opening()
            elif self.chance.random() < 0.6:
                rows += self.few_rows()
            least = self.many // 2 if head == "main" else 0
            rows += self.block(self.chance.randint(least, least + self.many), 0) + self.ending()
            rows.append("end")
        return "\n".join(rows)

    def inputs(self):
        return [self.chance.choice([0, 0, 1, -2]) for number in range(self.chance.randint(0, 12))]


class TameDraw(Draw):
    """Programs that mostly run on: all kinds have the first one's fields and methods, records alone are held by names
    that are asked, rows that need a value ask for it first. Some names are made once in a body and little used."""

    def __init__(self, seed, many=14, wild=0.0):
        Draw.__init__(self, seed, many, wild)
        self.counts = {method: self.chance.randint(0, 2) for method in METHODS}
        self.taken = FIELDS[:self.chance.randint(1, 3)]

    def any_name(self):
        return self.one(RECORDS)

    def field(self):
        return self.one(self.fields[KINDS[0]])

    def kind_rows(self):
        rows = []
        for kind in KINDS[:self.chance.randint(2, 4)]:
            elder = self.one(self.kinds) if self.kinds else None
            fields = list(self.fields[elder]) if elder else []
            own = [field for field in FIELDS if field not in fields and (elder is None or self.chance.random() < 0.3)]
            if elder is None:
                own = own[:self.chance.randint(2, 4)]
            rows.append(f"kind {kind}" + (f" of {elder}" if elder else "") + (" fields " + " ".join(own) if own else ""))
            self.kinds.append(kind)
            self.fields[kind] = fields + own
        return rows

    def heads(self):
        heads = []
        for name in FUNCTIONS[:self.chance.randint(1, 3)]:
            names = self.chance.sample(RECORDS, self.chance.randint(1, 3))
            self.functions[name] = (names[:1], names[1:])
            heads.append(" ".join(["func", name] + names[:1] + (["keeps"] + names[1:] if names[1:] else [])))
        for kind in self.kinds:
            for method in METHODS:
                if kind == KINDS[0] or self.chance.random() < 0.4:
                    params = self.chance.sample(RECORDS, self.counts[method])
                    self.methods[(kind, method)] = params
                    heads.append(" ".join(["method", kind, method] + params))
        self.chance.shuffle(heads)
        return heads + ["main"]

    def lone_row(self):
        """A row of a name that is made once in the body; now and then it is used like any other one."""
        name = self.one(LONE)
        word = self.one(["take", "put", "put", "tell", "take"])
        if self.chance.random() < 0.04:
            return self.one([["copy", self.one(RECORDS), name], ["copy", name, self.one(RECORDS)], ["give", name]])
        if word == "take":
            return [word, self.one(RECORDS), name, self.field()]
        return ["put", name, self.field(), self.one(RECORDS)] if word == "put" else [word, name]

    def plain_row(self):
        if self.chance.random() < 0.25:
            return self.lone_row()
        row = Draw.plain_row(self)
        # Some rows are drawn once more where they call nothing or end the call, so that there are many calls.
        if row[0] not in ("do", "ask", "straight") and self.chance.random() < 0.4 or row[0] == "give":
            row = Draw.plain_row(self)
        if row[0] == "take":
            row[3] = self.one([field for field in self.taken if field in self.fields[KINDS[0]]])
        return row

    def guarded(self, words):
        asked = ASKED.get(words[0])
        if asked and self.chance.random() < 0.97:
            return [f"if some {words[asked]}", " ".join(words), "end"]
        return [" ".join(words)]

    def lone_opening(self):
        return [f"new {name} {self.one(self.kinds)}" for name in LONE if self.chance.random() < 0.6]

    def opening(self):
        return Draw.opening(self) + self.lone_opening()

    def few_rows(self):
        return Draw.few_rows(self) + self.lone_opening()

    def condition(self):
        return ["choose"] if self.chance.random() < 0.6 else Draw.condition(self)

    def ending(self):
        return [f"give {self.one(RECORDS)}"] if self.chance.random() < 0.6 else []


def tame_text(seed, many=14):
    return TameDraw(seed, many).text()


def drawn_text(seed, many=14, wild=0.1):
    return Draw(seed, many, wild).text()


def drawn_inputs(seed):
    return Draw(seed).inputs()


def drawn_calls(chance, program, fineness):
    rows = [n for n in range(program.many_rows()) if program.row_words(n)[0] in ("do", "ask", "straight")]
    if not rows:
        return ()
    return tuple(chance.choice(rows) for number in range(chance.randint(0, fineness)))


def drawn_name(chance, program, fineness, makers):
    calls = drawn_calls(chance, program, fineness)
    body = chance.choice(program.bodies())
    if chance.random() < 0.6:
        x = chance.choice(RECORDS + LISTS + FUNCS + ["x", "self", "keeps", "ma.f", "mb.end", "any", "any.other"])
        return ("local", body, calls, x)
    maker = chance.choice(makers)
    words = program.row_words(maker)
    if words[0] == "row":
        return ("each", maker, calls)
    if words[0] == "new" and fields_of(program, words[2]):
        return ("field", maker, calls, chance.choice(fields_of(program, words[2])))
    if words[0] == "func" and kept_of(program, words[2]):
        return ("kept", maker, calls, chance.choice(kept_of(program, words[2])))
    return ("given", body, calls)


def drawn_facts(seed, program, fineness, many):
    """Facts of the program at the fineness, closed or not, in any order, some perhaps twice."""
    chance = random.Random(seed)
    makers = [n for n in range(program.many_rows()) if program.row_words(n)[0] in ("new", "row", "func")]
    outline = Outline(program)
    goers = [n for n in range(program.many_rows()) if goals_of(outline, n)]
    facts = []
    for number in range(many):
        roll = chance.random()
        calls = drawn_calls(chance, program, fineness)
        if roll < 0.15:
            facts.append(("reach", chance.choice(program.bodies()), calls))
        elif roll < 0.35 and goers:
            row = chance.choice(goers)
            behind = chance.choice([drawn_calls(chance, program, fineness), calls_behind(calls, row, fineness)])
            facts.append(("goes", row, calls, chance.choice(goals_of(outline, row)), behind))
        elif makers:
            thing = (chance.choice(makers), drawn_calls(chance, program, fineness))
            facts.append(("holds", drawn_name(chance, program, fineness, makers), thing))
    return facts
