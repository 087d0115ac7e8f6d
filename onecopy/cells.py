"""Disks: lists of cells that are written one by one, perhaps only so many times."""

from onecopy.errors import InvalidAllowance, Stopped


class Disk:
    """A list of cells. A cell that was never written holds None."""

    def __init__(self, cells=None):
        self._cells = [] if cells is None else list(cells)
        self._allowance = None
        self.writes = 0

    def __len__(self):
        return len(self._cells)

    def cells(self):
        """The contents of all cells."""
        return list(self._cells)

    @property
    def allowance(self):
        """The number of writes that the disk still makes, None if there is no limit."""
        return self._allowance

    @allowance.setter
    def allowance(self, allowed):
        if allowed is not None and allowed < 0:
            raise InvalidAllowance(allowed)
        self._allowance = allowed

    def allow(self, allowed):
        """Set the allowance."""
        self.allowance = allowed

    def read_cell(self, index):
        """The content of the cell, None beyond the last one."""
        return self._cells[index] if index < len(self._cells) else None

    def write_cell(self, index, content):
        """Replace the content of the cell. Raises Stopped if the allowance is 0."""
        if self._allowance == 0:
            raise Stopped(self.writes)
        if self._allowance is not None:
            self._allowance -= 1
        missing = index + 1 - len(self._cells)
        self._cells.extend([None] * missing)
        self._cells[index] = content
        self.writes += 1
