"""Desks: named webs, formulas and equations, whose changes can be taken back."""

from webnumbers.books import PrimeBook
from webnumbers.entries import EquationEntry, FormulaEntry, WebEntry
from webnumbers.errors import (
    Circular,
    InvalidName,
    InvalidText,
    NameInUse,
    NothingToUndo,
    TooLarge,
    UnknownName,
    WebError,
)
from webnumbers.expressions import MAX_TEXT, is_name, parse, write_tree
from webnumbers.lines import change_in
from webnumbers.values import depends_on_itself, names_in_order, users_of, values_of


def check_written(*trees):
    """Raise TooLarge if the text of one of the trees is too long."""
    for tree in trees:
        if len(write_tree(tree)) > MAX_TEXT:
            raise TooLarge(MAX_TEXT)


def changes_in(lines):
    """Return the list of the changes that the lines tell. Raise InvalidText for the first wrong line."""
    changes = []
    for number, line in enumerate(lines, 1):
        change = change_in(line)
        if change is None:
            raise InvalidText(number)
        changes.append(change)
    return changes


class Desk:
    """Named entries of one kind, their values, and the changes that made them.

    The dicts of entries and values are never changed: each change puts new ones in their places.
    The lists of changes hold, for each change, its line and the entries and values on its other side:
    those before a change in force, and those after a change that was taken back.
    """

    MAX_ENTRIES = 20

    def __init__(self, kind):
        self.kind = kind
        self.book = PrimeBook(kind)
        self._entries = {}
        self._values = {}
        self._made = []
        self._undone = []

    @property
    def journal(self):
        """Return the tuple of the lines of all changes in force, the oldest one first."""
        return tuple([line for line, _, _ in self._made])

    def __iter__(self):
        return iter(self._entries)

    def __contains__(self, x):
        return x in self._entries

    def __getitem__(self, at):
        self._check_known(at)
        return self._values[at]

    def __setitem__(self, at, worth):
        if isinstance(worth, str):
            self.set_formula(at, worth)
        else:
            self.set_web(at, worth)

    def set_web(self, name, web):
        """Give the name the web."""
        self._check_free(name)
        self._put(name, WebEntry(web, self.book.read(web)))

    def set_formula(self, name, text):
        """Give the name the formula."""
        self._check_free(name)
        tree = parse(text)
        check_written(tree)
        self._put(name, FormulaEntry(tree))

    def set_equation(self, name, left, right):
        """Give the name the equation in which it is the unknown."""
        self._check_free(name)
        left_tree = parse(left)
        right_tree = parse(right)
        check_written(left_tree, right_tree)
        self._put(name, EquationEntry(left_tree, right_tree))

    def drop(self, name):
        """Take the entry of the name away."""
        users = self.used_by(name)
        if users:
            raise NameInUse(name, users)
        entries = {other: self._entries[other] for other in self._entries if other != name}
        values = {other: self._values[other] for other in entries}
        self._change(f"drop {name}", entries, values)

    def built(self, name):
        """Return the web that the book builds for the value, or None if there is no value."""
        value = self[name]
        if value is None:
            return None
        return self.book.build(value)

    def form_of(self, name):
        """Return the line that sets the entry of the name."""
        self._check_known(name)
        return self._entries[name].written(name)

    def used_by(self, name):
        """Return the ascending tuple of the names whose entries depend directly on the name."""
        self._check_known(name)
        return users_of(self._entries, name)

    def steps(self):
        """Yield the names in the order in which their values are computed."""
        yield from names_in_order(self._entries)

    def undo(self):
        """Take back the latest change in force. Return its line."""
        return self._move(self._made, self._undone)

    def redo(self):
        """Make the change again that was taken back last. Return its line."""
        return self._move(self._undone, self._made)

    def run_lines(self, lines):
        """Make the changes that the lines tell, or none of them."""
        changes = changes_in(lines)
        before = (self._entries, self._values, list(self._made), list(self._undone))
        try:
            for change in changes:
                self._run(change)
        except WebError:
            self._entries, self._values, self._made, self._undone = before
            raise

    def _run(self, change):
        """Make the change that a line tells."""
        word, name, *rest = change
        if word == "web":
            self.set_web(name, rest[0])
        elif word == "formula":
            self.set_formula(name, rest[0])
        elif word == "equation":
            self.set_equation(name, rest[0], rest[1])
        else:
            self.drop(name)

    def _check_known(self, name):
        """Raise UnknownName if the name has no entry."""
        if name not in self._entries:
            raise UnknownName(name)

    def _check_free(self, name):
        """Raise the error of a string that may not be given an entry."""
        if not is_name(name):
            raise InvalidName(name)
        if name not in self._entries and len(self._entries) >= self.MAX_ENTRIES:
            raise TooLarge(self.MAX_ENTRIES)

    def _put(self, name, entry):
        """Give the name the entry, unless it depends on unknown names or on itself or has no value."""
        for other in entry.needed_names(name):
            if other != name and other not in self._entries:
                raise UnknownName(other)
        together = {**self._entries, name: entry}
        if depends_on_itself(together, name):
            raise Circular(name)
        # The entries ascend, because the desk is iterated over in their order.
        entries = {other: together[other] for other in sorted(together)}
        self._change(entry.written(name), entries, values_of(entries, len(self.book.primes)))

    def _change(self, line, entries, values):
        """Make a new change, which forgets all changes that were taken back."""
        self._made.append((line, self._entries, self._values))
        self._undone = []
        self._entries = entries
        self._values = values

    def _move(self, source, goal):
        """Go back over the last change of the source, which becomes the last one of the goal. Return its line."""
        if not source:
            raise NothingToUndo()
        line, entries, values = source.pop()
        goal.append((line, self._entries, self._values))
        self._entries = entries
        self._values = values
        return line


def replay(kind, lines):
    """Return a new desk of the kind on which the lines were run."""
    desk = Desk(kind)
    desk.run_lines(lines)
    return desk
