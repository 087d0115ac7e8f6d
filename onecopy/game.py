"""Games: all standings of a small web, solved against every choice of answers."""

from onecopy.answers import least_answer, legal_answers
from onecopy.boards import Board
from onecopy.errors import TooMany
from onecopy.standings import Standing, lines_used
from onecopy.webs import check_pages

MOST_STANDINGS = 3000


def _check_size(pages, lines):
    """Raise TooMany with the number of standings if there are too many of them."""
    count = 1
    for _ in range(pages):
        count = count * (lines + 1)
    if count > MOST_STANDINGS:
        raise TooMany(count)


class Game:
    """The values of all standings of a web and a number of lines."""

    def __init__(self, web, lines, *, copies=1):
        _check_size(web.pages, lines)
        self._web = web
        self._lines = lines
        self._copies = copies
        self._board = Board(web.pages, lines)
        self._values = [None] * self._board.standings
        self._solve()

    def _solve(self):
        """Fill in the values: in each round the standings that are lost with one update more."""
        moves = [self._moves_of(page) for page in range(self._web.pages)]
        safe = self._board.every()
        kept = self._kept_of(safe, moves)
        updates = 1
        while kept != safe:
            for place in self._board.members(safe ^ kept):
                self._values[place] = updates
            safe = kept
            kept = self._kept_of(safe, moves)
            updates += 1

    def _moves_of(self, page):
        """The answers to try for an update of the page, each with the lines that it uses."""
        fresh = Standing.fresh(self._web, self._lines)
        if self._lines == 0:
            # There is one standing only, so one legal answer is as good as another.
            least = least_answer(fresh, page, (), self._copies)
            answers = [] if least is None else [least]
        else:
            # What is legal in any standing is legal in the fresh one.
            answers = legal_answers(fresh, page, self._copies)
        return [(copied, lines_used(self._web, page, copied)) for copied in answers]

    def _kept_of(self, safe, moves):
        """The standings of the set "safe" from which each update has an answer that leads into it."""
        kept = safe
        for answers in moves:
            kept = self._answered(safe, answers, kept)
        return kept

    def _answered(self, safe, answers, wanted):
        """The standings among the wanted ones from which one of the answers leads into the set "safe"."""
        found = 0
        for copied, used in answers:
            found = found | (self._board.before(safe, copied, used) & wanted)
            if found == wanted:
                return found
        return found

    def _standing_of(self, blank):
        """The standing with these blank lines. Raises InvalidStanding as Standing does."""
        return Standing(self._web, self._lines, blank)

    def _value_of(self, standing):
        """The value of the standing."""
        return self._values[self._board.place_of(standing.blanks())]

    def value(self, blank):
        """None if the standing is keepable, otherwise the least number of updates with which the foe wins."""
        return self._value_of(self._standing_of(blank))

    def keepable(self):
        """The lists of the blank lines of all keepable standings, ascending."""
        return [self._board.blanks_at(place) for place, value in enumerate(self._values) if value is None]

    def safe_answers(self, blank, page):
        """The legal answers to an update of the page after which the standing is keepable."""
        standing = self._standing_of(blank)
        check_pages(self._web, [page])
        return [copied for copied in legal_answers(standing, page, self._copies)
                if self._value_of(standing.after(page, *copied)) is None]
