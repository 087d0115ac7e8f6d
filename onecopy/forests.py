"""Forests: parents, debts and the deepest dealing."""

from onecopy.errors import HasRing, ShortLot


def tree_parents(web):
    """For each page its parent, None for a root. Raises HasRing if the web is not a forest."""
    parts = web.parts()
    for part in parts:
        if web.has_ring(part):
            raise HasRing(part[0])
    parents = [None] * web.pages
    for part in parts:
        _hang(web, part[0], parents)
    return parents


def _hang(web, root, parents):
    """Fill in the parents of the part of the root."""
    waiting = [root]
    while waiting:
        page = waiting.pop()
        for other in web.neighbours(page):
            if other != parents[page]:
                parents[other] = page
                waiting.append(other)


def children_lists(parents):
    """For each page the list of the pages whose parent it is."""
    children = [[] for _ in parents]
    for page, parent in enumerate(parents):
        if parent is not None:
            children[parent].append(page)
    return children


def children_first(parents):
    """All pages, each of them behind its children."""
    children = children_lists(parents)
    order = []
    waiting = [page for page, parent in enumerate(parents) if parent is None]
    while waiting:
        page = waiting.pop()
        order.append(page)
        waiting.extend(children[page])
    return order[::-1]


def tie_sizes(web, parents):
    """For each page the number of pointers between it and its parent, 0 for a root."""
    return [[(page, parent) in web, (parent, page) in web].count(True) for page, parent in enumerate(parents)]


def _debts_of(standing, parents, sizes):
    """The debts of the pages with these parents and tie sizes."""
    debts_below = [0] * len(parents)
    found = [0] * len(parents)
    for page in children_first(parents):
        found[page] = max(0, sizes[page] - standing.blank_of(page) + debts_below[page])
        parent = parents[page]
        if parent is not None:
            debts_below[parent] += found[page]
    return found


def debts(standing):
    """For each page its debt. Raises HasRing as tree_parents does."""
    parents = tree_parents(standing.web)
    return _debts_of(standing, parents, tie_sizes(standing.web, parents))


def _indebted_lot(parents, owing, page):
    """The page with the pages below it that are joined to it by debts.

    Summed up over this lot, the debt of the page is the size of its own tie plus the pointers
    within the lot minus its blank lines. So the lot is short if the debt is greater than the size.
    """
    children = children_lists(parents)
    lot = []
    waiting = [page]
    while waiting:
        member = waiting.pop()
        lot.append(member)
        waiting.extend([child for child in children[member] if owing[child] > 0])
    return sorted(lot)


def deepest(standing):
    """The owners of the deepest dealing. Raises HasRing as tree_parents does, ShortLot without a dealing."""
    parents = tree_parents(standing.web)
    sizes = tie_sizes(standing.web, parents)
    owing = _debts_of(standing, parents, sizes)
    for page, size in enumerate(sizes):
        if owing[page] > size:
            raise ShortLot(_indebted_lot(parents, owing, page))
    owned = [size - owing[page] for page, size in enumerate(sizes)]
    return [_deepest_owner(pointer, parents, sizes, owned) for pointer in standing.web.arrows()]


def _deepest_owner(pointer, parents, sizes, owned):
    """The page that owns the pointer if each page owns the first pointers of its tie, so many as in the list."""
    holder, target = pointer
    child, parent = (holder, target) if parents[holder] == target else (target, holder)
    # Of two pointers of a tie the one with the lesser holder comes first.
    place = 1 if sizes[child] == 2 and holder > target else 0
    return child if place < owned[child] else parent
