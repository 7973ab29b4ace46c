"""What machine, rules and their kin ask of a program again and again, looked up once."""

from pointsure.kinds import body_heads, fields_by, found_by, head_kept, head_params, kind_table
from pointsure.rows import Row


class Outline:
    """A program's rows, taken apart, and its tables of kinds and bodies. It is only read."""

    def __init__(self, program):
        self.rows = [Row(program.row_words(number)) for number in range(program.many_rows())]
        self.homes = [program.row_body(number) for number in range(program.many_rows())]
        self.table = kind_table(program)
        self.heads = body_heads(program)
        self.params = {}
        self.kept = {}
        self.own_rows = {}
        for body in self.heads:
            self.params[body] = head_params(self.heads[body])
            self.kept[body] = head_kept(self.heads[body])
            self.own_rows[body] = []
        for number, body in enumerate(self.homes):
            self.own_rows[body].append(number)
        self.fields = {}
        for kind in self.table:
            self.fields[kind] = fields_by(self.table, kind)

    def found(self, kind, method):
        """The body that the kind finds by the method's name, or None."""
        return found_by(self.table, self.heads, kind, method)

    def takes(self, body, row):
        """Whether the body has as many parameters as the row hands on."""
        return body in self.params and len(self.params[body]) == len(row.handed)

    def made_by(self, number, word):
        """The row of this number, where it is one of this word, else None."""
        if 0 <= number < len(self.rows) and self.rows[number].word == word:
            return self.rows[number]
        return None

    def made_kind(self, number):
        """The kind of the records that the row makes, or None."""
        row = self.made_by(number, "new")
        if row is None:
            return None
        return row.kind

    def made_function(self, number):
        """The function of the function things that the row makes, or None."""
        row = self.made_by(number, "func")
        if row is None:
            return None
        return row.function

    def has_field(self, number, field):
        """Whether the row makes records that have the field."""
        kind = self.made_kind(number)
        return kind is not None and field in self.fields[kind]
