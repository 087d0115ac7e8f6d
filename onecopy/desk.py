"""The desk: a store that is led by lines of text, and whose deeds can be undone."""

from onecopy.errors import BadCommand, NothingToRedo, NothingToUndo
from onecopy.holds import Holds
from onecopy.store import Store

MOST_DIGITS = 40
# For each command, but for put, how many numbers stand behind it at least and at most.
NUMBERS = {
    "drop": (1, 1), "get": (1, 2), "size": (0, 1), "show": (2, 2), "undo": (0, 0), "redo": (0, 0),
    "hold": (1, 1), "release": (1, 1), "sweep": (0, 0),
}


def _is_number(word):
    """Whether the word is a number: digits without a leading zero, perhaps behind a minus."""
    digits = word.removeprefix("-")
    if not digits.isascii() or not digits.isdigit() or len(digits) > MOST_DIGITS:
        return False
    return not digits.startswith("0") or word == "0"


def _numbers_in(words, least, most):
    """The numbers behind the first word. Raises BadCommand for the first word that is wrong, missing or too many."""
    numbers = []
    for index, word in enumerate(words):
        if index > 0:
            if index > most or not _is_number(word):
                raise BadCommand(index)
            numbers.append(int(word))
    if len(numbers) < least:
        raise BadCommand(len(words))
    return numbers


class Desk:
    """A new store, its holds, and the deeds that were done on it."""

    def __init__(self, size, lines):
        self.store = Store(size, lines)
        self.holds = Holds(self.store.chest)
        # Each deed is (key, before, after); a text is None where the key is absent.
        self._deeds = []
        self._undone = []

    def run_line(self, line):
        """Run the command. Returns the shown text."""
        words = line.split(" ")
        if words[0] == "put":
            key = _numbers_in(words[:2], 1, 1)[0]
            if len(words) < 3:
                raise BadCommand(2)
            return self._do_deed(key, " ".join(words[2:]))
        if words[0] not in NUMBERS:
            raise BadCommand(0)
        least, most = NUMBERS[words[0]]
        return self._run(words[0], _numbers_in(words, least, most))

    def _run(self, word, numbers):
        """Run a command that is followed by these numbers only. Returns the shown text."""
        match word:
            case "drop":
                return self._do_deed(numbers[0], None)
            case "get":
                return self._view_on(numbers[1:])[numbers[0]]
            case "size":
                return str(len(self._view_on(numbers)))
            case "show":
                return self._shown_pairs(numbers[0], numbers[1])
            case "undo":
                return self._undo()
            case "redo":
                return self._redo()
            case "hold":
                self.holds.hold_day(numbers[0])
                return self._shown_holds()
            case "release":
                self.holds.release_day(numbers[0])
                return self._shown_holds()
            case _:
                return f"freed {self.holds.sweep_copies()}"

    def _view_on(self, numbers):
        """The view of the day that is the only one of the numbers, or of the present day if there is none."""
        return self.store.at(numbers[0] if numbers else self.store.today)

    def _shown_pairs(self, low, high):
        """The pairs of the present day between the bounds, each as a row."""
        view = self._view_on([])
        rows = [f"{key:>8}  {text}" for key, text in view.scan(low, high)]
        return " / ".join(rows)

    def _shown_day(self):
        """The present day."""
        return f"day {self.store.today}"

    def _shown_holds(self):
        """The number of different held days."""
        return f"held {len(self.holds.held())}"

    def _set_key(self, key, text):
        """Give the key the text on a new day, or remove it if the text is None."""
        if text is None:
            self.store.drop_key(key)
        else:
            self.store.put_key(key, text)

    def _do_deed(self, key, text):
        """Do a deed, and forget the undone ones."""
        before = self._view_on([]).text_of(key)
        self._set_key(key, text)
        self._deeds.append((key, before, text))
        self._undone = []
        return self._shown_day()

    def _undo(self):
        """Make the last deed that is not undone undone."""
        if not self._deeds:
            raise NothingToUndo()
        key, before, _ = self._deeds[-1]
        self._set_key(key, before)
        self._undone.append(self._deeds.pop())
        return self._shown_day()

    def _redo(self):
        """Make the last undone deed again."""
        if not self._undone:
            raise NothingToRedo()
        key, _, after = self._undone[-1]
        self._set_key(key, after)
        self._deeds.append(self._undone.pop())
        return self._shown_day()

    def depth(self):
        """The numbers of deeds that can be undone, and of deeds that can be made again."""
        return len(self._deeds), len(self._undone)
