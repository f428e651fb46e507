"""A desk: it has a PLAN and a RINGING, and answers lines."""

from ringdown.deskasks import answer_to
from ringdown.deskdeeds import done_by, is_deed
from ringdown.deskwords import DONE_WORD, NO_LINE, refused
from ringdown.errors import BadRow, BadTree, Busy, NoHappening, NoMark, NoName, OutOfPlace, TooGreat, TooLate, Twice
from ringdown.plan import Plan
from ringdown.plantext import read_plan_text
from ringdown.ringing import Ringing
from ringdown.treetext import bell_or_name
from ringdown.words import hours_text, words_of


def words_said(line):
    """The words of a line; None of what is none."""
    if not isinstance(line, str) or "\n" in line:
        return None
    return words_of(line)


class Desk:
    """A PLAN, a RINGING, and the lines that were done."""

    def __init__(self, text=None):
        self._plan = Plan()
        self._live = Ringing()
        if text is not None:
            tree, away = read_plan_text(text)
            self._plan = Plan(tree, away)
        # Of each line that stands: the PLAN and the RINGING ahead of it, and itself.
        self._ahead = []
        self._taken_back = []

    def _do(self, line, words):
        """Does the deed of a line; tells the answer."""
        ahead = (self._plan.copied(), self._live.copied(), line)
        answer, plan, live = done_by(self._plan, self._live, line, words)
        self._plan = plan
        self._live = live
        self._ahead.append(ahead)
        return answer

    def _back(self):
        """Takes the last line back."""
        if len(self._ahead) == 0:
            return refused(["back"])
        plan, live, line = self._ahead.pop()
        self._plan = plan
        self._live = live
        self._taken_back.append(line)
        return DONE_WORD

    def _again(self):
        """Does again the line that was taken back last."""
        if len(self._taken_back) == 0:
            return refused(["again"])
        line = self._taken_back[-1]
        self._do(line, words_said(line))
        self._taken_back.pop()
        return DONE_WORD

    def _answer(self, line, words):
        """The answer to the words of a line, where nothing is refused."""
        if words == ["back"]:
            return self._back()
        if words == ["again"]:
            return self._again()
        if is_deed(words):
            answer = self._do(line, words)
            self._taken_back = []
            return answer
        answer = answer_to(self._plan, self._live, words)
        return NO_LINE if answer is None else answer

    def say(self, line):
        """The answer to a line."""
        words = words_said(line)
        if words is None:
            return NO_LINE
        try:
            return self._answer(line, words)
        except BadTree:
            return refused(["tree"])
        except OutOfPlace:
            return refused(["place"])
        except Twice:
            return refused(["twice"])
        except TooGreat:
            return refused(["great"])
        except TooLate:
            return refused(["late"])
        except NoName as no_name:
            return refused(["name", bell_or_name(no_name.name)])
        except NoHappening as no_happening:
            return refused(["happening", no_happening.word])
        except NoMark as no_mark:
            return refused(["mark", no_mark.word])
        except Busy as busy:
            return refused(["busy", busy.name, hours_text(busy.until)])
        except BadRow as bad_row:
            return refused(["row", str(bad_row.row), str(bad_row.word)])

    def plan(self):
        """A copy of its PLAN."""
        return self._plan.copied()

    def live(self):
        """A copy of its RINGING."""
        return self._live.copied()

    def lines(self):
        """The lines that were done and aren't taken back."""
        return [line for _, _, line in self._ahead]

    def __len__(self):
        """How many lines were done and aren't taken back."""
        return len(self._ahead)
