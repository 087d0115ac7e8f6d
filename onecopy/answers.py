"""Answers that may copy several pages: the legal ones, from the least one on."""


def least_answer(standing, page, copied, most):
    """The least legal answer to an update of the page that copies at least these pages.

    None if it copies more than "most" pages. Each legal answer that copies these pages contains it.
    """
    web = standing.web
    used = {page: 1}
    anew = {other: True for other in copied}
    if page not in anew and standing.blank_of(page) == 0:
        anew[page] = True
    waiting = list(anew)
    while waiting and len(anew) <= most:
        nearest = web.holders(waiting.pop())
        for holder in nearest:
            used[holder] = used.get(holder, 0) + 1
            if holder not in anew and used[holder] > standing.blank_of(holder):
                # It cannot note all the new places, so it must be copied too.
                anew[holder] = True
                waiting.append(holder)
    return tuple(sorted(list(anew))) if len(anew) <= most else None


def _larger_answers(standing, page, most, copied, start):
    """The next larger legal answers, each with the page from which on more pages are added to it."""
    found = []
    for extra in range(start, standing.web.pages):
        if extra not in copied:
            larger = least_answer(standing, page, (*copied, extra), most)
            # One that also needs a page before the extra one is found by adding that page.
            if larger is not None and all([other >= extra or other in copied for other in larger]):
                found.append((larger, extra + 1))
    return found


def legal_answers(standing, page, most):
    """The legal answers that copy at most "most" pages, in the order of their lengths and then ascending."""
    least = least_answer(standing, page, (), most)
    waiting = [] if least is None else [(least, 0)]
    found = []
    while waiting:
        copied, start = waiting.pop()
        found.append(copied)
        if len(copied) < most:
            waiting.extend(_larger_answers(standing, page, most, copied, start))
    return sorted(found, key=lambda answer: (len(answer), answer))
