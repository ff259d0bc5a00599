"""A house of commits, which can be undone, and hands that work on it apart."""
from seenanddone.ask.questions import decide
from seenanddone.base.helpers import is_ascending, is_whole, is_whole_within, lot_of
from seenanddone.base.numbers import is_name
from seenanddone.errors import InvalidName, InvalidNumber, InvalidOperation, NothingToUndo, Refused, TooMany
from seenanddone.house.register import Register

MAX_COMMITS = 100
MAX_DEEDS = 10

_MOST_DESPITE = 20


def _need_name(author):
    if not is_name(author):
        raise InvalidName("the author has no name")


def _need_despite(value):
    """Raise unless it is an ascending tuple of at most twenty pairs of a name and an integer."""
    if not isinstance(value, tuple) or len(value) > _MOST_DESPITE:
        raise InvalidOperation("no tuple of at most twenty claims")
    for pair in value:
        if not isinstance(pair, tuple) or len(pair) != 2 or not is_name(pair[0]) or not is_whole(pair[1]):
            raise InvalidOperation("no pair of a name and an integer")
    if not is_ascending(value):
        raise InvalidOperation("the claims are not ascending")


def _need_count(count):
    if not is_whole(count) or count < 1:
        raise InvalidNumber(count)


class House:
    """Commits, of which the last ones can be undone, and the registers behind them."""

    def __init__(self):
        self._commits = ()
        self._present = 0
        # The register at each number; none of these changes.
        self._registers = [Register()]

    def at(self, number=None):
        """A register that is equal to that at a number, the present one for None, and changes by itself."""
        if number is not None and not is_whole_within(number, 0, self._present):
            raise InvalidNumber(number)
        return self._registers[self._present if number is None else number].twin()

    def commit(self, author, deeds, *, despite=()):
        """Put a commit behind the present ones, and return its number."""
        self._need_commit(author, deeds)
        _need_despite(despite)
        behind = self._after(deeds)
        known = self._registers[self._present].fallen + despite
        for name, number in behind.fallen:
            if (name, number) not in known:
                raise Refused(("fallen", name, number))
        return self._add(author, deeds, behind)

    def commit_regardless(self, author, deeds):
        """Put a commit behind the present ones, whatever may fall by it, and return its number."""
        self._need_commit(author, deeds)
        return self._add(author, deeds, self._after(deeds))

    def _need_commit(self, author, deeds):
        _need_name(author)
        if not isinstance(deeds, tuple) or not 1 <= len(deeds) <= MAX_DEEDS:
            raise InvalidOperation("no tuple of one to ten deeds")

    def _after(self, deeds):
        """The register behind some deeds on the present one."""
        if self._present == MAX_COMMITS:
            raise TooMany(MAX_COMMITS)
        behind = self.at()
        for deed in deeds:
            behind.do(deed)
        return behind

    def _add(self, author, deeds, behind):
        """Drop the undone commits, and add one with the register behind it."""
        self._registers = self._registers[:self._present + 1] + [behind]
        self._commits = self.commits + ((self._present + 1, author, deeds),)
        self._present = len(self._commits)
        return self._present

    @property
    def present(self):
        """The present number."""
        return self._present

    @property
    def commits(self):
        """The tuple of the commits up to the present number."""
        return self._commits[:self._present]

    @property
    def undone(self):
        """The tuple of the undone commits."""
        return self._commits[self._present:]

    def back(self, count=1):
        """Undo so many commits, and return the number that is present then."""
        _need_count(count)
        if count > self._present:
            raise NothingToUndo(count)
        self._present = self._present - count
        return self._present

    def forward(self, count=1):
        """Do so many undone commits again, and return the number that is present then."""
        _need_count(count)
        if count > len(self._commits) - self._present:
            raise NothingToUndo(count)
        self._present = self._present + count
        return self._present

    def __len__(self):
        return len(self._commits[:self._present])

    def __eq__(self, other):
        return isinstance(other, House) and self._commits == other._commits and self._present == other._present

    def __str__(self):
        return f"house of {self._present} commits, {len(self.undone)} undone"


def need_house(house):
    """Raise unless it is a house."""
    if not isinstance(house, House):
        raise InvalidOperation("no house")


class Hand:
    """Somebody who works apart on a house: deeds on what was present, until they are committed together."""

    def __init__(self, house, author):
        need_house(house)
        _need_name(author)
        self._house = house
        self._author = author
        self._begin()

    def _begin(self):
        """Stand on the present commits of the house, without deeds."""
        self._ahead = self._house.commits
        self._behind = self._house.at()
        self._known = self._behind.studies
        self._deeds = ()
        self._asked = ()

    @property
    def author(self):
        """The name of the author."""
        return self._author

    @property
    def base(self):
        """The number on which the hand stands."""
        return len(self._ahead)

    @property
    def deeds(self):
        """The tuple of the own deeds."""
        return self._deeds

    @property
    def has_read(self):
        """The lot of the studies, of those that were there at the base, that were asked for or named by a deed."""
        return lot_of([name for name in self._asked if name in self._known])

    def do(self, deed):
        """Do a deed, and return what it returns."""
        behind = self._behind.twin()
        told = behind.do(deed)
        if len(self._deeds) == MAX_DEEDS:
            raise TooMany(MAX_DEEDS)
        self._behind = behind
        self._deeds = self._deeds + (deed,)
        self._asked = self._asked + (deed[1],)
        return told

    def decide(self, name, question):
        """The pair of the verdict of a question and of a paper for it, at the last edition of a study."""
        told = decide(self._behind.diagram_at(name), question)
        self._asked = self._asked + (name,)
        return told

    def commit(self, *, despite=()):
        """Commit the deeds, stand on the commit, and return its number."""
        _need_despite(despite)
        if len(self._deeds) == 0:
            raise Refused(("empty",))
        if self._house.commits[:self.base] != self._ahead:
            raise Refused(("adrift", self.base))
        asked = self.has_read
        for number, _, deeds in self._house.commits[self.base:]:
            names = [deed[1] for deed in deeds if deed[1] in asked]
            if names:
                raise Refused(("read", number, names[0]))
        number = self._house.commit(self._author, self._deeds, despite=despite)
        self._begin()
        return number

    def __len__(self):
        return len(self._deeds)

    def __str__(self):
        return f"hand of {self._author} on {self.base}, {len(self._deeds)} deeds"
