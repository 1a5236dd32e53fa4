"""Fetchers, which ask a world sparingly, and replays of their logs."""

from feedreader.addresses import is_address
from feedreader.dates import is_moment
from feedreader.errors import BadAddress, BadLog, BadMoment, NoAnswer
from feedreader.kinds import is_int
from feedreader.worlds import is_fresh, is_stop

MOST_ADDRESSES = 20
FIRST_PAUSE = 60
LONGEST_PAUSE = 3840


class Fetcher:
    """Fetches what stands at addresses, and asks a world only where it has to."""

    def __init__(self, world):
        self._world = world
        self._questions = []
        self._received = 0
        self._last_moment = 0
        # By address: the goal of a move for ever; (text, mark, moment of the answer, until when it is fresh) of the
        # page; until when to wait; for how long after the last failure, if no other answer has come since.
        self._goals = {}
        self._kept = {}
        self._waits = {}
        self._pauses = {}

    @property
    def asks(self):
        """How many questions it has asked."""
        return len(self._questions)

    @property
    def received(self):
        """How many characters of pages it was told."""
        return self._received

    @property
    def moves(self):
        """The ascending tuple of the moves for ever that it was told, pairs of addresses."""
        return tuple(sorted(self._goals.items()))

    @property
    def log(self):
        """The tuple of its questions with their answers, in order."""
        return tuple(self._questions)

    def fetch(self, address, moment):
        """What fetching an address at a moment comes to."""
        if not is_address(address):
            raise BadAddress(address)
        if not is_moment(moment) or moment < self._last_moment:
            raise BadMoment(moment)
        # No address comes twice, so no answer matters to later steps; all are kept at the end, when none can fail.
        asked, result = self._go(address, moment)
        for question in asked:
            told = self._take(question)
            if result is None:
                result = told
        self._last_moment = moment
        return result

    def _go(self, address, moment):
        """The questions of a fetching with their answers, and its result, None if the last answer tells it."""
        asked = []
        been = []
        while address not in been and len(been) < MOST_ADDRESSES:
            been.append(address)
            if address in self._goals:
                address = self._goals[address]
                continue
            if self._waits.get(address, 0) > moment:
                return (asked, ("wait", address, self._waits[address]))
            text, mark, told, until = self._kept.get(address, (None, None, None, 0))
            if until > moment:
                return (asked, ("page", text, address, told))
            answer = self._world.ask(address, moment, mark)
            asked.append((address, moment, mark, answer))
            if answer[0] != "moved":
                return (asked, None)
            address = answer[1]
        return (asked, ("ring", address))

    def _take(self, question):
        """Keeps what an answer tells, and returns the result that it brings, None if the fetching goes on."""
        address, moment, mark, answer = question
        self._questions.append(question)
        word = answer[0]
        if word != "down":
            self._pauses.pop(address, None)
        if word == "page":
            self._received += len(answer[1])
            return self._keep(address, answer[1], answer[2], moment, answer[3])
        if word == "same":
            return self._keep(address, self._kept[address][0], mark, moment, answer[1])
        if word == "moved":
            if answer[2]:
                self._goals[address] = answer[1]
            return None
        if word == "gone":
            self._kept.pop(address, None)
            return ("gone", address)
        self._waits[address] = moment + (answer[1] if word == "busy" else self._pause(address))
        return ("wait", address, self._waits[address])

    def _keep(self, address, text, mark, moment, fresh):
        """Keeps a page that was told at this moment, and returns the result with it."""
        self._kept[address] = (text, mark, moment, moment + fresh)
        return ("page", text, address, moment)

    def _pause(self, address):
        """For how long to wait behind one more failure."""
        last = self._pauses.get(address, 0)
        self._pauses[address] = min(2 * last, LONGEST_PAUSE) if last else FIRST_PAUSE
        return self._pauses[address]


class Replay:
    """Answers the questions of a log once more, each once and in order."""

    def __init__(self, log):
        if not isinstance(log, tuple):
            raise BadLog(None)
        for number, question in enumerate(log):
            if not _is_question(question):
                raise BadLog(number)
        self._questions = log
        self._answered = 0

    def ask(self, address, moment, mark=None):
        """The answer to the next question of the log, if it is this one."""
        number = self._answered
        if number == len(self._questions) or not _is_asked(address, moment, mark):
            raise NoAnswer(number)
        question = self._questions[number]
        if question[:3] != (address, moment, mark):
            raise NoAnswer(number)
        self._answered = number + 1
        return question[3]


def _is_asked(address, moment, mark):
    """Whether a world can be asked so."""
    return is_address(address) and is_moment(moment) and (mark is None or is_int(mark) and mark >= 0)


def _is_question(value):
    """Whether it is a question with its answer, as a log has them."""
    if not isinstance(value, tuple) or len(value) != 4:
        return False
    address, moment, mark, answer = value
    return _is_asked(address, moment, mark) and _is_answer(address, mark, answer)


def _is_answer(address, mark, value):
    """Whether an address can answer so to a question with this mark."""
    if is_stop(address, value):
        return True
    if not isinstance(value, tuple) or not value:
        return False
    if value[0] == "same":
        return mark is not None and len(value) == 2 and is_fresh(value[1])
    if value[0] != "page" or len(value) != 4:
        return False
    _, text, own_mark, fresh = value
    return isinstance(text, str) and is_int(own_mark) and own_mark >= 0 and is_fresh(fresh)
