"""Logs: whether rows of updates with their answers are legal, and from which standings."""

from onecopy.errors import NoLine, NoStart
from onecopy.standings import Standing, lines_used


def _is_ascending(pages):
    """Whether each page is greater than the one before it."""
    return all([before < after for before, after in zip(pages, pages[1:])])


def _fault_of(web, page, answer, copies):
    """What is wrong with a row in any standing of the web: "page", "answer" or None."""
    if any([not 0 <= at < web.pages for at in [page, *answer]]):
        return "page"
    if len(answer) > copies or not _is_ascending(answer):
        return "answer"
    return None


def judge_log(standing, rows, *, copies=1):
    """The index and the reason of the first wrong row, and the standing before it, or after all rows."""
    present = standing
    for index, (page, answer) in enumerate(rows):
        fault = _fault_of(standing.web, page, answer, copies)
        if fault is not None:
            return index, fault, present
        try:
            present = present.after(page, *answer)
        except NoLine:
            return index, "line", present
    return None, None, present


def least_start(web, lines, rows, *, copies=1):
    """The standing with the fewest blank lines from which the log is legal."""
    index, _, _ = judge_log(Standing.fresh(web, lines), rows, copies=copies)
    if index is not None:
        raise NoStart(index)
    needed = [0] * web.pages
    # What a page uses once it has been copied does not come from the lines that it had at the beginning.
    copied = {}
    for page, answer in rows:
        for user, number in lines_used(web, page, answer).items():
            if user not in copied:
                needed[user] += number
        for target in answer:
            copied[target] = True
    return Standing(web, lines, needed)
