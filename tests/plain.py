"""Machine and rules once more, as plainly as the document tells them, to hold the program's own against."""

from pointsure.kinds import fields_of, finds, kept_of, params_of


class Over(Exception):
    pass


def blocks_of(program):
    """By bodies, their rows as a tree: (number, words, rows, else's rows)."""
    bodies = {}
    number = 0
    open_rows = []
    for row in program.shown().split("\n"):
        words = row.split(" ")
        if not open_rows:
            if words[0] != "kind":
                open_rows.append([])
                bodies[words[1] + "." + words[2] if words[0] == "method" else (words + [words[0]])[1]] = open_rows[-1]
        elif words[0] == "end":
            open_rows.pop()
        elif words[0] == "else":
            open_rows.pop()
            open_rows.append(open_rows[-1][-1][3])
        else:
            open_rows[-1].append((number, words, [], []))
            number += 1
            if words[0] in ("if", "while"):
                open_rows.append(open_rows[-1][-1][2])
    return bodies


class PlainMachine:
    """A run by walking the tree; what it shows of itself is looked at ahead of each step and at the end."""

    def __init__(self, program, inputs, fuel):
        self.program, self.inputs, self.fuel = program, list(inputs), fuel
        self.bodies = blocks_of(program)
        self.stack, self.things, self.told = [], [], []
        self.shots = []
        self.end = None
        try:
            value = self.call("main", {})
            self.end = ("given", self.show(value))
            self.stack = []
        except Over:
            pass
        self.shoot()

    def shoot(self):
        calls = []
        for number, (body, row, names) in enumerate(self.stack):
            waits = row if number + 1 < len(self.stack) else None
            calls.append((body, waits, sorted((k, v) for k, v in names.items() if v is not None)))
        things = [(r, s, list(w) if s == "row" else sorted(w.items())) for r, s, w, k in self.things]
        self.shots.append((calls, things, list(self.told), self.end))

    def show(self, value):
        if value is None:
            return "none"
        if value[0] == "mark":
            return value[1]
        row, sort, what, name = self.things[value[1]]
        return "row" if sort == "row" else name

    def stop(self, end):
        self.end = end
        raise Over()

    def call(self, body, names):
        self.stack.append([body, None, names])
        value = self.rows(self.bodies[body])
        self.stack.pop()
        return value[0] if value else None

    def tick(self, number):
        self.shoot()
        if self.fuel == 0:
            self.stop(("dry",))
        self.fuel -= 1
        self.stack[-1][1] = number

    def rows(self, rows):
        """A tuple of what is given, or None."""
        for number, words, within, otherwise in rows:
            self.tick(number)
            if words[0] == "if":
                given = self.rows(within if self.holds(words[1:]) else otherwise)
            elif words[0] == "while":
                given = None
                while given is None and self.holds(words[1:]):
                    given = self.rows(within)
                    if given is None:
                        self.tick(number)
            elif words[0] == "give":
                given = (self.names().get(words[1]),)
            else:
                given = None
                self.deed(number, words)
            if given is not None:
                return given
        return None

    def names(self):
        return self.stack[-1][2]

    def holds(self, words):
        if words[0] == "choose":
            return bool(self.inputs and self.inputs.pop(0))
        values = [self.names().get(name) for name in words[1:]]
        if words[0] == "some":
            return values[0] is not None
        return values[0] == values[1] and (values[0] is None or values[0][0] == "thing")

    def make(self, number, sort, what, name):
        self.things.append((number, sort, what, name))
        return ("thing", len(self.things) - 1)

    def refuse(self, number, value, sort, field=None):
        """What the value is, where it is of the sort."""
        if value is None:
            self.stop(("fault", number, "none"))
        if value[0] == "mark":
            if sort != "mark":
                self.stop(("fault", number, "sort"))
            kind = value[1]
        else:
            if self.things[value[1]][1] != sort:
                self.stop(("fault", number, "sort"))
            kind = self.things[value[1]][3]
        if field is not None and field not in fields_of(self.program, kind):
            self.stop(("fault", number, "field"))
        return kind

    def deed(self, number, words):
        n, w = self.names(), words
        get = n.get
        if w[0] == "new":
            n[w[1]] = self.make(number, "record", {f: None for f in fields_of(self.program, w[2])}, w[2])
        elif w[0] == "row":
            n[w[1]] = self.make(number, "row", [], None)
        elif w[0] == "func":
            kept = dict(zip(kept_of(self.program, w[2]), [get(a) for a in w[3:]]))
            n[w[1]] = self.make(number, "func", kept, w[2])
        elif w[0] == "copy":
            n[w[1]] = get(w[2])
        elif w[0] == "take":
            self.refuse(number, get(w[2]), "record", w[3])
            n[w[1]] = self.things[get(w[2])[1]][2][w[3]]
        elif w[0] in ("put", "check"):
            self.refuse(number, get(w[1]), "record", w[2])
            if w[0] == "put":
                self.things[get(w[1])[1]][2][w[2]] = get(w[3])
        elif w[0] == "push":
            self.refuse(number, get(w[1]), "row")
            self.things[get(w[1])[1]][2].append(get(w[2]))
        elif w[0] == "pull":
            self.refuse(number, get(w[2]), "row")
            members = self.things[get(w[2])[1]][2]
            n[w[1]] = members.pop() if members else None
        elif w[0] == "tell":
            self.told.append(self.show(get(w[1])))
        elif w[0] == "fresh":
            n[w[1]] = ("mark", w[2])
            for field in fields_of(self.program, w[2]):
                n[w[1] + "." + field] = None
        elif w[0] == "own":
            self.refuse(number, get(w[2]), "mark", w[3])
            n[w[1]] = get(w[2] + "." + w[3])
        elif w[0] == "place":
            self.refuse(number, get(w[1]), "mark", w[2])
            n[w[1] + "." + w[2]] = get(w[3])
        elif w[0] in ("do", "ask", "straight"):
            self.do_call(number, w)

    def do_call(self, number, w):
        names = self.names()
        value = names.get(w[2])
        handed = w[{"do": 3, "ask": 4, "straight": 5}[w[0]]:]
        kind = self.refuse(number, value, "func" if w[0] == "do" else "record")
        body = {"do": kind, "ask": w[0] == "ask" and finds(self.program, kind, w[3]),
                "straight": ".".join(w[3:5])}[w[0]]
        if body is None:
            self.stop(("fault", number, "method"))
        params = params_of(self.program, body)
        if len(params) != len(handed):
            self.stop(("fault", number, "count"))
        if len(self.stack) == 30:
            self.stop(("deep", number))
        given = dict(self.things[value[1]][2]) if w[0] == "do" else {"self": value}
        given.update(zip(params, [names.get(a) for a in handed]))
        result = self.call(body, given)
        names[w[1]] = result


def plain_instances(program, fineness, facts):
    """Point 13, item by item, by walking all facts."""
    facts = sorted(set(facts))
    out = [(("reach", "main", ()), -1, [])]
    rows = [(n, program.row_words(n), program.row_body(n)) for n in range(program.many_rows())]

    def things(name):
        return [fact[2] for fact in facts if fact[0] == "holds" and fact[1] == name]

    def made(thing, word):
        words = rows[thing[0]][1]
        return words if words[0] == word else None

    for reach in [fact for fact in facts if fact[0] == "reach"]:
        c = reach[2]
        for r, w, body in rows:
            if body != reach[1]:
                continue
            d = (c + (r,))[len(c) + 1 - fineness:] if fineness <= len(c) + 1 else c + (r,)

            def local(x):
                return ("local", body, c, x)

            def flow(source, target, uses):
                for u in things(source):
                    out.append((("holds", target, u), r, uses + [("holds", source, u)]))
            if w[0] in ("new", "row", "func"):
                out.append((("holds", local(w[1]), (r, c)), r, [reach]))
            if w[0] == "func":
                for k, a in zip(kept_of(program, w[2]), w[3:]):
                    flow(local(a), ("kept", r, c, k), [reach])
            if w[0] == "copy":
                flow(local(w[2]), local(w[1]), [reach])
            if w[0] == "give":
                flow(local(w[1]), ("given", body, c), [reach])
            if w[0] == "own":
                flow(local(w[2] + "." + w[3]), local(w[1]), [reach])
            if w[0] == "place":
                flow(local(w[3]), local(w[1] + "." + w[2]), [reach])
            if w[0] in ("take", "pull", "do", "ask", "straight"):
                y = local(w[2])
            elif w[0] in ("put", "push"):
                y = local(w[1])
            else:
                continue
            handed = w[{"do": 3, "ask": 4, "straight": 5}.get(w[0], 9):]
            for t in things(y):
                uses = [reach, ("holds", y, t)]
                new = made(t, "new")
                if w[0] == "take" and new and w[3] in fields_of(program, new[2]):
                    flow(("field",) + t + (w[3],), local(w[1]), uses)
                if w[0] == "put" and new and w[2] in fields_of(program, new[2]):
                    flow(local(w[3]), ("field",) + t + (w[2],), uses)
                if w[0] == "push" and made(t, "row"):
                    flow(local(w[2]), ("each",) + t, uses)
                if w[0] == "pull" and made(t, "row"):
                    flow(("each",) + t, local(w[1]), uses)
                goal = None
                if w[0] == "do" and made(t, "func"):
                    goal = made(t, "func")[2]
                if w[0] == "ask" and new:
                    goal = finds(program, new[2], w[3])
                if w[0] == "straight" and new:
                    goal = ".".join(w[3:5])
                if goal is None or len(params_of(program, goal)) != len(handed):
                    continue
                out.append((("goes", r, c, goal, d), r, uses))
                if w[0] == "do":
                    for k in kept_of(program, goal):
                        flow(("kept",) + t + (k,), ("local", goal, d, k), uses)
                else:
                    out.append((("holds", ("local", goal, d, "self"), t), r, uses))
            if w[0] in ("do", "ask", "straight"):
                for goes in [fact for fact in facts if fact[0] == "goes" and fact[1:3] == (r, c) and fact[4] == d]:
                    params = params_of(program, goes[3])
                    if len(params) != len(handed):
                        continue
                    uses = [reach, goes]
                    out.append((("reach", goes[3], d), r, uses))
                    for k, a in zip(params, handed):
                        flow(local(a), ("local", goes[3], d, k), uses)
                    flow(("given", goes[3], d), local(w[1]), uses)
    once = []
    for instance in sorted(out):
        if instance not in once[-1:]:
            once.append(instance)
    return once


def plain_told(program, fineness, more=()):
    """The least closed facts, by rounds; None where they are too many."""
    known = set(more)
    while True:
        heads = {instance[0] for instance in plain_instances(program, fineness, known)}
        if heads <= known:
            return sorted(known)
        known |= heads
        if len(known) > 6000 or sum(fact[0] == "reach" for fact in known) > 64:
            return None


# Where names stand in a row's words; in some rows all words from one on are names, too.
NAME_PLACES = {
    "new": [1], "row": [1], "copy": [1, 2], "take": [1, 2], "put": [1, 3], "push": [1, 2], "pull": [1, 2], "give": [1],
    "tell": [1], "rest": [], "check": [1], "fresh": [1], "own": [1, 2], "place": [1, 3]}
HANDED_FROM = {"func": ([1], 3), "do": ([1, 2], 3), "ask": ([1, 2], 4), "straight": ([1, 2], 5), "if": ([], 2),
               "while": ([], 2)}


def plain_names(words):
    """The names of a row, by the places of point 5."""
    if words[0] in HANDED_FROM:
        places, start = HANDED_FROM[words[0]]
        return [words[place] for place in places] + words[start:]
    return [words[place] for place in NAME_PLACES[words[0]]]


def numbered(program):
    return [(n, program.row_words(n), program.row_body(n)) for n in range(program.many_rows())]


def plain_allowed(program, facts, change):
    """Point 28, word by word."""
    r, word, kind = change
    if not 0 <= r < program.many_rows():
        return False
    w, body = program.row_words(r), program.row_body(r)
    if ("reach", body, ()) not in facts:
        return False

    def held(where, x):
        return {fact[2] for fact in facts if fact[0] == "holds" and fact[1] == ("local", where, (), x)}

    if word == "straight":
        if w[0] != "ask" or f"{kind}.{w[3]}" not in program.bodies():
            return False
        makers = [program.row_words(thing[0]) for thing in held(body, w[2])]
        return all(finds(program, m[2], w[3]) == f"{kind}.{w[3]}" for m in makers if m[0] == "new")
    if word == "apart" and kind == "" and w[0] == "new":
        x = w[1]
        if x in params_of(program, body) + kept_of(program, body) or x == "self" and "." in body:
            return False
        for n, v, where in numbered(program):
            harmless = v == ["tell", x] or v in (["if", "some", x], ["while", "some", x])
            harmless = harmless or v[0] == "take" and v[2] == x != v[1] or v[0] == "put" and v[1] == x != v[3]
            if where == body and n != r and x in plain_names(v) and not harmless:
                return False
        return True
    if word == "unread" and kind == "" and w[0] == "put":
        for n, v, where in numbered(program):
            if v[0] == "take" and v[3] == w[2] and ("reach", where, ()) in facts and held(where, v[2]) & held(body, w[1]):
                return False
        return True
    return False


def plain_changed_rows(program, change):
    """What rows become, by their numbers."""
    r, word, kind = change
    w = program.row_words(r)
    if word == "straight":
        return {r: ["straight", w[1], w[2], kind] + w[3:]}
    if word == "unread":
        return {r: ["check", w[1], w[2]]}
    changed = {r: ["fresh", w[1], w[2]]}
    for n, v, where in numbered(program):
        if where == program.row_body(r) and v[0] == "take" and v[2] == w[1]:
            changed[n] = ["own"] + v[1:]
        if where == program.row_body(r) and v[0] == "put" and v[1] == w[1]:
            changed[n] = ["place"] + v[1:]
    return changed


def plain_chosen(program, facts):
    """Point 29."""
    rows = range(program.many_rows())
    aparts = [(r, "apart", "") for r in rows if plain_allowed(program, facts, (r, "apart", ""))]
    changed = {n for change in aparts for n in plain_changed_rows(program, change)}
    told = list(aparts)
    for r in rows:
        if plain_allowed(program, facts, (r, "unread", "")) and r not in changed:
            told.append((r, "unread", ""))
        w = program.row_words(r)
        name = ("local", program.row_body(r), (), w[2] if len(w) > 2 else "")
        makers = [program.row_words(fact[2][0])[0] for fact in facts if fact[0] == "holds" and fact[1] == name]
        for body in program.bodies():
            change = (r, "straight", body.split(".")[0])
            if "new" in makers and plain_allowed(program, facts, change) and change not in told:
                told.append(change)
    return sorted(told)
