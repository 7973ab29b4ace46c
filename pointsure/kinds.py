"""What a program tells of its kinds, and in the heads of its bodies [8].

Nothing but shown() is asked of a program. Its text is read at each question,
so every list that is told is new; who asks often keeps the answers himself.
"""


def kind_names(program):
    """The names of the kinds, as they stand."""
    return list(kind_table(program))


def elder_of(program, kind):
    """The kind's elder, or None."""
    return kind_table(program)[kind][0]


def fields_of(program, kind):
    """The fields of the kind: those of the eldest first, its own last."""
    table = kind_table(program)
    fields = []
    for one in reversed(kind_and_elders(table, kind)):
        fields.extend(table[one][1])
    return fields


def finds(program, kind, method):
    """The body that the kind finds by the method's name, or None."""
    heads = body_heads(program)
    for one in kind_and_elders(kind_table(program), kind):
        body = method_body(one, method)
        if body in heads:
            return body
    return None


def params_of(program, body):
    """The names of the body's parameters; `self` is none of them."""
    head = body_heads(program)[body]
    # In a method's row the word keeps is a parameter like others.
    if head[0] == "method":
        return head[3:]
    names = head[2:]
    if "keeps" in names:
        return names[:names.index("keeps")]
    return names


def kept_of(program, body):
    """The names that the body keeps: none, but for functions."""
    head = body_heads(program)[body]
    if head[0] != "func" or "keeps" not in head[2:]:
        return []
    names = head[2:]
    return names[names.index("keeps") + 1:]


def method_body(kind, method):
    """The text by which a kind's own method is told."""
    return f"{kind}.{method}"


def head_body(head):
    """The text by which the body is told that the row of these words opens."""
    if head[0] == "method":
        return method_body(head[1], head[2])
    if head[0] == "func":
        return head[1]
    return "main"


def rows_of_words(program):
    """The words of each row of the text."""
    return [row.split(" ") for row in program.shown().split("\n")]


def kind_table(program):
    """By each kind's name, as they stand: a pair of its elder and the list of its own fields."""
    table = {}
    for words in rows_of_words(program):
        if words[0] != "kind":
            break
        table[words[1]] = elder_and_fields(words[2:])
    return table


def elder_and_fields(words):
    """The same pair, of the words behind a kind's name."""
    # Told by place alone: kinds and fields may be called `of` and `fields`, too.
    if words and words[0] == "of":
        return (words[1], words[3:])
    return (None, words[1:])


def kind_and_elders(table, kind):
    """The kind, its elder, the elder's elder, and so on."""
    line = []
    one = kind
    while one is not None:
        line.append(one)
        one = table[one][0]
    return line


def body_heads(program):
    """The words of the row that opens each body, by the body's text, as they stand."""
    heads = {}
    depth = 0
    for words in rows_of_words(program):
        if words[0] == "end":
            depth -= 1
        # Within a body, too, rows begin with func: the depth alone tells a head.
        elif depth == 0 and words[0] != "kind":
            heads[head_body(words)] = words
            depth = 1
        elif words[0] in ("if", "while"):
            depth += 1
    return heads
