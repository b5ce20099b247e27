"""Shelves: rows of one base by titles, with all calls that can be taken back."""

from figurebooks.checks import check_base, check_number, is_letter
from figurebooks.errors import InvalidName, NothingToUndo, TooWide, UnlikeBases
from figurebooks.forms import rank_of
from figurebooks.parting import are_alike


class Shelf:
    """Rows of one base, each under a title that is one letter."""

    def __init__(self, base):
        """Make a shelf without rows."""
        check_base(base)
        self._base = base
        self._most = None
        self._rows = {}
        self._story = []
        self._earlier = []

    @property
    def titles(self):
        """The ascending list of the titles."""
        return sorted(self._rows)

    def put(self, title, row):
        """Put a row under a title, in the place of an earlier one if there is one."""
        self._check_put(title, row)
        self._note(("put", title, row))
        self._rows[title] = row

    def drop(self, title):
        """Take a title away."""
        self._check_title(title)
        self._note(("drop", title))
        del self._rows[title]

    def undo(self):
        """Take back the last call that put a row or took a title away."""
        if not self._story:
            raise NothingToUndo(0)
        title = self._story.pop()[1]
        earlier = self._earlier.pop()
        if earlier is None:
            del self._rows[title]
        else:
            self._rows[title] = earlier

    def row_on(self, title):
        """Return the row under a title."""
        self._check_title(title)
        return self._rows[title]

    def alike_on(self, row):
        """Return the ascending list of the titles whose rows are alike to a row."""
        self._check_row(row)
        return [title for title in self.titles if are_alike(self._rows[title], row)]

    def story(self):
        """Return the list of the calls that are not taken back."""
        return list(self._story)

    def __len__(self):
        return len(self._rows)

    def __eq__(self, other):
        # The titles and rows follow from the story.
        return (
            isinstance(other, Shelf)
            and self._base == other._base
            and self._most == other._most
            and self._story == other._story
        )

    def _note(self, call):
        """Keep a call, and what was under its title before, None for nothing."""
        self._story.append(call)
        self._earlier.append(self._rows.get(call[1]))

    def _check_put(self, title, row):
        """Raise an error for what is no title, then for a row of another base."""
        if not is_letter(title):
            raise InvalidName(title)
        self._check_row(row)

    def _check_row(self, row):
        """Raise `UnlikeBases((base, base))` for a row of another base."""
        if row.book.base != self._base:
            raise UnlikeBases((self._base, row.book.base))

    def _check_title(self, title):
        """Raise `InvalidName(title)` for a title that is not there."""
        if title not in self._rows:
            raise InvalidName(title)


class SmallShelf(Shelf):
    """A shelf with rows of limited rank."""

    def __init__(self, base, most):
        """Make a shelf without rows, for rows of rank at most most."""
        super().__init__(base)
        check_number(most)
        self._most = most

    def put(self, title, row):
        """Put a row under a title, in the place of an earlier one if there is one."""
        self._check_put(title, row)
        rank = rank_of(row)
        if rank > self._most:
            raise TooWide(rank)
        super().put(title, row)
