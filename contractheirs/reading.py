"""Reads the classes of a library from the rows of a text."""

from contractheirs.classes import ClassDef, Method
from contractheirs.conditions import MOST_CLAUSES, Cond
from contractheirs.errors import BadText
from contractheirs.phrases import body_row, class_row, clause_behind, else_row, field_row, last_row, let_row, method_row

INDENT = "  "


class Reader:
    """The rows of a text, and the number of the next one."""

    def __init__(self, text):
        self.rows = [] if text == "" else text.split("\n")
        self.at = 0

    def _seen(self, level, look):
        """What the next row says, if it stands at a level, else None."""
        indent = INDENT * level
        if self.at == len(self.rows) or not self.rows[self.at].startswith(indent):
            return None
        return look(self.rows[self.at][len(indent):])

    def _taken(self, level, look):
        """The same, and goes on behind the row if it says something."""
        found = self._seen(level, look)
        if found is not None:
            self.at += 1
        return found

    def _wanted(self, level, look):
        """The same, and raises BadText if the row says nothing."""
        found = self._taken(level, look)
        if found is None:
            raise BadText(self.at)
        return found

    def _condition(self, level, word):
        """The condition of some rows that begin with a word; a clause that cannot stand in it is not taken."""
        clauses = []
        doubles = 0
        while len(clauses) < MOST_CLAUSES:
            clause = self._seen(level, lambda row: clause_behind(word, row))
            if clause is None or len(clause) + doubles == 3:
                break
            doubles += len(clause) - 1
            clauses.append(clause)
            self.at += 1
        return Cond(*clauses)

    def all_classes(self):
        """The classes of the text, up to its end."""
        found = []
        while self.at < len(self.rows):
            found.append(self._class())
        return found

    def _class(self):
        name, bases = self._wanted(0, class_row)
        fields = []
        field = self._taken(1, field_row)
        while field is not None:
            fields.append(field)
            field = self._taken(1, field_row)
        where = self._condition(1, "where")
        methods = []
        head = self._taken(1, method_row)
        while head is not None:
            methods.append(self._method(head))
            head = self._taken(1, method_row)
        return ClassDef(name, bases, fields=tuple(fields), where=where, methods=tuple(methods))

    def _method(self, head):
        name, params, result = head
        pre = self._condition(2, "pre")
        post = self._condition(2, "post")
        self._wanted(2, body_row)
        return Method(name, params, result, pre=pre, post=post, body=self._statement(3))

    def _statement(self, level):
        lets = []
        let = self._taken(level, let_row)
        while let is not None:
            lets.append(let)
            let = self._taken(level, let_row)
        last = self._wanted(level, last_row)
        if last[0] in ("if", "try"):
            first = self._statement(level + 1)
            self._wanted(level, else_row)
            last = last + (first, self._statement(level + 1))
        for name, expression in lets[::-1]:
            last = ("let", name, expression, last)
        return last
