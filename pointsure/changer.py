"""Changes chosen and made by facts of fineness 0 [29]."""

from pointsure.changes import Grounds, allows, changed_rows
from pointsure.edits import with_rows
from pointsure.errors import NoChange


def chosen(program, facts):
    """The chosen changes, sorted."""
    grounds = Grounds(program, facts)
    aparts = allowed_of(grounds, "apart")
    changed = {}
    for change in aparts:
        changed.update(changed_rows(grounds.outline, change))
    unread = [change for change in allowed_of(grounds, "unread") if change[0] not in changed]
    return sorted(aparts + unread + chosen_straight(grounds))


def allowed_of(grounds, word):
    """The allowed changes of this word, which tell no kind."""
    changes = [(number, word, "") for number in range(len(grounds.outline.rows))]
    return [change for change in changes if allows(grounds, change)]


def chosen_straight(grounds):
    """The allowed ones whose Y holds a record: at most one of a row, as a record finds one body alone."""
    outline = grounds.outline
    changes = []
    for number, row in enumerate(outline.rows):
        if row.word != "ask":
            continue
        for kind in grounds.kinds_at(number, row.y)[:1]:
            goal = outline.found(kind, row.method)
            if goal is not None:
                # The second word of a method's head is the kind that tells it.
                changes.append((number, "straight", outline.heads[goal][1]))
    return [change for change in changes if allows(grounds, change)]


def changed_by(program, facts, changes):
    """The program with all the changes made at once; NoChange with the first one that is refused."""
    grounds = Grounds(program, facts)
    changed = {}
    for change in changes:
        if not allows(grounds, change):
            raise NoChange(change)
        rows = changed_rows(grounds.outline, change)
        if any([number in changed for number in rows]):
            raise NoChange(change)
        changed.update(rows)
    return with_rows(program, changed)
