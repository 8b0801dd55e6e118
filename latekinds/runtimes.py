"""Runtimes: kinds that are loaded, asked for and taken back while they live."""

from latekinds.books import MOST_KINDS, is_parents
from latekinds.errors import BadKind, NothingDone, TooMany
from latekinds.standing import Standing


class Runtime:
    """Leads the told rule; `standings` keeps what stood after each load, so that taking back is going back."""

    def __init__(self):
        self.standings = [Standing()]

    def load(self, parents):
        """Loads a kind with these parents; its number."""
        kind = self.many()
        if not is_parents(parents, kind):
            raise BadKind()
        if kind >= MOST_KINDS:
            raise TooMany(MOST_KINDS)
        self.standings.append(self.standings[-1].followed_by(parents))
        return kind

    def ask(self, x, p):
        """Whether x is a p."""
        return self.standings[-1].says(x, p)

    def given(self, x):
        """The slot, the number and the row that the kind was given."""
        return self.standings[-1].given(x)

    def book(self):
        """The book of all kinds that are there."""
        return self.standings[-1].known

    def groups(self):
        """The groups of the told rule, as they are now."""
        return self.standings[-1].grouping.told_groups()

    def back(self):
        """Takes the last kind back."""
        if self.many() == 0:
            raise NothingDone()
        self.standings.pop()

    def many(self):
        """How many kinds there are."""
        return self.standings[-1].many()

    def copy(self):
        """Another runtime with the same kinds that goes on apart."""
        twin = Runtime()
        twin.standings = list(self.standings)
        return twin

    def trying(self, action):
        """What the action returns when it is called with the runtime, which is then as it was."""
        held = list(self.standings)
        try:
            return action(self)
        finally:
            self.standings = held
