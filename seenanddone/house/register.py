"""The register: studies with editions of a diagram, and claims that stand or fall."""
from seenanddone.ask.questions import decide, is_paper, is_question
from seenanddone.base.helpers import is_whole_within
from seenanddone.base.numbers import is_name
from seenanddone.errors import (
    InvalidName, InvalidNumber, InvalidOperation, InvalidQuestion, InvalidStudy, Refused, TooMany, UnknownName)
from seenanddone.house.edits import changed, is_edit_form, refusal_of
from seenanddone.web.checks import need_diagram
from seenanddone.web.diagrams import Diagram

MAX_STUDIES = 8
MAX_EDITIONS = 40
MAX_CLAIMS = 20
MAX_EDITS = 10

_LENGTHS = {"begin": 5, "edit": 3, "pin": 3}


def is_edit(value):
    """Whether the value is an edit by its form."""
    return is_edit_form(value)


def edited(diagram, edits):
    """The diagram behind some edits, done one after the other."""
    need_diagram(diagram)
    if not isinstance(edits, tuple) or not 1 <= len(edits) <= MAX_EDITS or not all([is_edit(edit) for edit in edits]):
        raise InvalidOperation("no tuple of one to ten edits")
    made = diagram
    for index, edit in enumerate(edits):
        word = refusal_of(made, edit)
        if word is not None:
            raise Refused(("edit", index, word))
        made = changed(made, edit)
    return made


def _standing_behind(diagram, claim, ahead):
    """The standing of a claim at an edition with this diagram, where it had another standing at the edition ahead."""
    question, verdict, _ = claim
    if not is_question(diagram, question):
        return ("fallen", None, None)
    # A paper for the other verdict is none for this one.
    if is_paper(diagram, question, verdict, ahead[2]):
        return ("stands", verdict, ahead[2])
    found, paper = decide(diagram, question)
    return ("another" if found == verdict else "fallen", found, paper)


def copied(paper):
    """A paper that shares no dict with another one."""
    if isinstance(paper, tuple):
        return tuple([copied(part) for part in paper])
    if isinstance(paper, dict):
        return {key: copied(paper[key]) for key in paper}
    return paper


class Register:
    """Studies, by names. Each has editions, and claims with their standings from the edition of the pinning on."""

    def __init__(self):
        # A study is a triple of tuples that never change: editions, claims, and for each claim its standings.
        self._studies = {}

    def begin(self, name, diagram):
        """Begin a study; its first edition is the diagram."""
        if not is_name(name):
            raise InvalidName("no name")
        need_diagram(diagram)
        if name in self._studies:
            raise InvalidStudy("there is a study of this name")
        if len(self._studies) == MAX_STUDIES:
            raise TooMany(MAX_STUDIES)
        self._studies[name] = ((diagram,), (), ())
        return 1

    def edit(self, name, edits):
        """Add an edition: the last one behind edits; return its number."""
        self._need_study(name)
        editions, claims, standings = self._studies[name]
        made = edited(editions[-1], edits)
        if len(editions) == MAX_EDITIONS:
            raise TooMany(MAX_EDITIONS)
        further = [row + (_standing_behind(made, claim, row[-1]),) for claim, row in zip(claims, standings)]
        self._studies[name] = (editions + (made,), claims, tuple(further))
        return len(editions) + 1

    def pin(self, name, question):
        """Pin a question at the last edition, with its verdict there; return the number of the claim."""
        self._need_study(name)
        editions, claims, standings = self._studies[name]
        if not is_question(editions[-1], question):
            raise InvalidQuestion("no question of the last edition")
        if len(claims) == MAX_CLAIMS:
            raise TooMany(MAX_CLAIMS)
        verdict, paper = decide(editions[-1], question)
        claim = (question, verdict, len(editions))
        self._studies[name] = (editions, claims + (claim,), standings + ((("stands", verdict, paper),),))
        return len(claims) + 1

    def do(self, deed):
        """Do what a tuple tells, and return what the method of its word returns."""
        if not isinstance(deed, tuple) or len(deed) == 0 or not isinstance(deed[0], str) or deed[0] not in _LENGTHS:
            raise InvalidOperation("no word of a deed")
        if len(deed) != _LENGTHS[deed[0]]:
            raise InvalidOperation("the deed has another length")
        if deed[0] == "begin":
            return self.begin(deed[1], Diagram(deed[2], deed[3], deed[4]))
        if deed[0] == "edit":
            return self.edit(deed[1], deed[2])
        return self.pin(deed[1], deed[2])

    def _need_study(self, name):
        if name not in self:
            raise UnknownName(name)

    def _edition_of(self, name, edition, first):
        """The number of an edition, the last one for None; raise if there is none, or it is ahead of the first."""
        many = len(self._studies[name][0])
        if edition is not None and not is_whole_within(edition, first, many):
            raise InvalidNumber(edition)
        return many if edition is None else edition

    def diagram_at(self, name, edition=None):
        """An edition, the last one for None."""
        self._need_study(name)
        return self._studies[name][0][self._edition_of(name, edition, 1) - 1]

    def standing(self, name, number, edition=None):
        """The standing of a claim at an edition, the last one for None: its word, its verdict and its paper."""
        self._need_study(name)
        _, claims, standings = self._studies[name]
        if not is_whole_within(number, 1, len(claims)):
            raise InvalidNumber(number)
        pinned = claims[number - 1][2]
        return copied(standings[number - 1][self._edition_of(name, edition, pinned) - pinned])

    def words(self, name, edition=None):
        """The dict from the numbers of all claims that were pinned up to an edition to their words there."""
        self._need_study(name)
        at_edition = self._edition_of(name, edition, 1)
        _, claims, standings = self._studies[name]
        return {
            index + 1: standings[index][at_edition - claim[2]][0]
            for index, claim in enumerate(claims) if claim[2] <= at_edition
        }

    def editions(self, name):
        """How many editions a study has."""
        self._need_study(name)
        return len(self._studies[name][0])

    def claims(self, name):
        """The tuple of the triples of the question, the verdict and the edition of all claims of a study."""
        self._need_study(name)
        return self._studies[name][1]

    @property
    def studies(self):
        """The ascending tuple of the names of the studies."""
        return tuple(sorted(self._studies))

    @property
    def fallen(self):
        """The ascending tuple of the pairs of a name and a number of all claims that are fallen at last editions."""
        return tuple([
            (name, index + 1)
            for name in sorted(self._studies)
            for index, row in enumerate(self._studies[name][2]) if row[-1][0] == "fallen"
        ])

    def twin(self):
        """An equal register that changes by itself."""
        made = Register()
        made._studies = {name: self._studies[name] for name in self._studies}
        return made

    def __contains__(self, value):
        return value in tuple(self._studies)

    def __len__(self):
        return len(self._studies)

    def __eq__(self, other):
        return isinstance(other, Register) and self._told() == other._told()

    def _told(self):
        """The dict from the names to the editions and the claims."""
        return {name: self._studies[name][:2] for name in self._studies}

    def _claims_of_all(self):
        """The list of the claims of all studies."""
        return [claim for name in self._studies for claim in self._studies[name][1]]

    def __str__(self):
        return f"register of {len(self._studies)} studies, {len(self._claims_of_all())} claims"
