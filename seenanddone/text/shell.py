"""A shell: what is said is put to a house, by one hand for each author."""
from seenanddone.base.helpers import lot_of
from seenanddone.errors import (
    InvalidNumber, InvalidOperation, NothingToUndo, ParseError, Refused, StudyError, TooMany, UnknownName)
from seenanddone.house.hands import Hand, need_house
from seenanddone.house.views import View
from seenanddone.text.commands import command_of, pieces_of
from seenanddone.text.texts import write_data

_FIRST_AUTHOR = "me"
_LONGEST_TEXT = 2000
_MOST_TEXTS = 100


def _need_text(text):
    if not isinstance(text, str) or len(text) > _LONGEST_TEXT or not all([" " <= sign <= "~" for sign in text]):
        raise InvalidOperation("no text of at most 2000 printable characters")


class Shell:
    """A house that is told texts, and answers them."""

    def __init__(self, house):
        need_house(house)
        self._house = house
        self._author = _FIRST_AUTHOR
        self._hands = {_FIRST_AUTHOR: Hand(house, _FIRST_AUTHOR)}

    @property
    def author(self):
        """The present author."""
        return self._author

    @property
    def authors(self):
        """The lot of all authors."""
        return lot_of(self._hands)

    def say(self, text):
        """Do what a text tells, and return its answer."""
        _need_text(text)
        return self._answer_to(text)

    def run(self, texts):
        """Do what some texts tell, one after the other, and return the tuple of their answers."""
        if not isinstance(texts, tuple) or len(texts) > _MOST_TEXTS:
            raise InvalidOperation("no tuple of at most 100 texts")
        for text in texts:
            _need_text(text)
        return tuple([self._answer_to(text) for text in texts])

    def _answer_to(self, text):
        """The answer to a text; what is not done has no effect."""
        pieces = pieces_of(text)
        if len(pieces) == 0:
            return ""
        try:
            return self._done_by(command_of(text, pieces))
        except ParseError as wrong:
            return f"wrong at {wrong.spot}"
        except Refused as refused:
            return f"refused {refused.reason[0]}"
        except TooMany as passed:
            return f"too many {passed.limit}"
        except NothingToUndo:
            return "no more"
        except (StudyError, InvalidNumber, UnknownName):
            return "invalid"

    def _done_by(self, command):
        """The answer to a word and its parts."""
        word = command[0]
        if word == "as":
            return self._be(command[1])
        if word == "back":
            return str(self._house.back())
        if word == "forward":
            return str(self._house.forward())
        if word == "drop":
            self._hands[self._author] = Hand(self._house, self._author)
            return "ok"
        if word == "commit":
            despite = ((command[1], command[2]),) if len(command) > 1 else ()
            return str(self._hands[self._author].commit(despite=despite))
        if word == "words":
            return self._words_of(command[1])
        if word == "see":
            return self._seen_by(command[1], command[2], command[3])
        return self._by_hand(word, command[1], command[2])

    def _be(self, author):
        """Make an author the present one."""
        if author not in self._hands:
            self._hands[author] = Hand(self._house, author)
        self._author = author
        return f"{author} on {self._hands[author].base}"

    def _by_hand(self, word, name, told):
        """The answer to what the hand of the present author does or decides."""
        hand = self._hands[self._author]
        if word == "begin":
            return str(hand.do((word, name, told.things, told.arrows, told.bows)))
        if word == "edit":
            return str(hand.do((word, name, (told,))))
        if word == "pin":
            return str(hand.do((word, name, told)))
        verdict, paper = hand.decide(name, told)
        return write_data(paper) if word == "why" else _word_of(verdict)

    def _seen_by(self, name, seen, question):
        """The verdict of a question for somebody who sees a lot of the things at the present number."""
        view = View(self._house.at().diagram_at(name), seen)
        return _word_of(view.decide(question)[0])

    def _words_of(self, name):
        """Each claim of a study with its word at the present number."""
        words = self._house.at().words(name)
        return ", ".join([f"{number} {words[number]}" for number in words]) if words else "none"

    def __contains__(self, value):
        return value in tuple(self._hands)

    def __len__(self):
        return len(self._hands)

    def __str__(self):
        return f"shell of {len(self._hands)} authors, at {self._house.present}"


def _word_of(verdict):
    return "yes" if verdict else "no"
