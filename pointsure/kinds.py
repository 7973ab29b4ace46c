"""What a program tells of its kinds, and in the heads of its bodies [8].

Nothing but shown() is asked of a program. Its text is read at each question,
so every list that is told is new; who asks often keeps the tables himself.
"""


def kind_names(program):
    """The names of the kinds, as they stand."""
    return list(kind_table(program))


def elder_of(program, kind):
    """The kind's elder, or None."""
    return kind_table(program)[kind][0]


def fields_of(program, kind):
    """The fields of the kind: those of the eldest first, its own last."""
    return fields_by(kind_table(program), kind)


def finds(program, kind, method):
    """The body that the kind finds by the method's name, or None."""
    return found_by(kind_table(program), body_heads(program), kind, method)


def params_of(program, body):
    """The names of the body's parameters; `self` is none of them."""
    return head_params(body_heads(program)[body])


def kept_of(program, body):
    """The names that the body keeps: none, but for functions."""
    return head_kept(body_heads(program)[body])


def fields_by(table, kind):
    """The fields of the kind, by the table of the kinds."""
    fields = []
    for one in reversed(kind_and_elders(table, kind)):
        fields.extend(table[one][1])
    return fields


def found_by(table, heads, kind, method):
    """The body that the kind finds, or None, by the tables of the kinds and of the bodies' heads."""
    for one in kind_and_elders(table, kind):
        body = method_body(one, method)
        if body in heads:
            return body
    return None


def head_params(head):
    """The parameters that the row of these words tells."""
    # In a method's row the word keeps is a parameter like others.
    if head[0] == "method":
        return list(head[3:])
    names = list(head[2:])
    if "keeps" in names:
        return names[:names.index("keeps")]
    return names


def head_kept(head):
    """The kept names that the row of these words tells."""
    if head[0] != "func" or "keeps" not in head[2:]:
        return []
    names = list(head[2:])
    return names[names.index("keeps") + 1:]


def method_body(kind, method):
    """The text by which a kind's own method is told."""
    return f"{kind}.{method}"


def is_method_body(body):
    """Whether the text tells a method: no function is called with this sign."""
    return "." in body


def head_body(head):
    """The text by which the body is told that the row of these words opens."""
    if head[0] == "method":
        return method_body(head[1], head[2])
    if head[0] == "func":
        return head[1]
    return "main"


def rows_of_words(program):
    """The words of each row of the text."""
    return [row.split(" ") for row in program.shown().split("\n")]


def kind_table(program):
    """By each kind's name, as they stand: a pair of its elder and the list of its own fields."""
    table = {}
    for words in rows_of_words(program):
        if words[0] != "kind":
            break
        table[words[1]] = elder_and_fields(words[2:])
    return table


def elder_and_fields(words):
    """The same pair, of the words behind a kind's name."""
    # Told by place alone: kinds and fields may be called `of` and `fields`, too.
    if words and words[0] == "of":
        return (words[1], words[3:])
    return (None, words[1:])


def kind_and_elders(table, kind):
    """The kind, its elder, the elder's elder, and so on."""
    line = []
    one = kind
    while one is not None:
        line.append(one)
        one = table[one][0]
    return line


def body_heads(program):
    """The words of the row that opens each body, by the body's text, as they stand."""
    heads = {}
    depth = 0
    for words in rows_of_words(program):
        if words[0] == "end":
            depth -= 1
        # Within a body, too, rows begin with func: the depth alone tells a head.
        elif depth == 0 and words[0] != "kind":
            heads[head_body(words)] = words
            depth = 1
        elif words[0] in ("if", "while"):
            depth += 1
    return heads
