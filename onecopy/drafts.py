"""Drafts: the new copies and the notes of a day that is not written yet."""


class Draft:
    """What the next day of a chest writes."""

    def __init__(self, chest):
        self._chest = chest
        self._new_copies = []
        self._notes = []
        # For each page that has a new copy in this draft the address of the last one.
        self._new_addresses = {}

    def address_of(self, page):
        """The address of the copy of the page that is live once the draft is written, as far as it goes."""
        if page in self._new_addresses:
            return self._new_addresses[page]
        return self._chest.live(page)

    def links_to(self, pages):
        """The links to the pages."""
        return [(page, self.address_of(page)) for page in pages]

    def new_copy(self, page, text, targets, entry):
        """Write the page anew, with links to the targets."""
        links = self.links_to(targets)
        self._new_addresses[page] = self._chest.next_address() + len(self._new_copies) * (self._chest.lines + 1)
        self._new_copies.append((page, text, links, entry))

    def new_note(self, page, change, links):
        """Note the change and the links on the next line of the page."""
        self._notes.append((self.address_of(page), change, links))

    def write(self):
        """Make the day. Returns the numbers of its new copies and of its notes."""
        self._chest.commit_day(self._new_copies, self._notes)
        return len(self._new_copies), len(self._notes)
