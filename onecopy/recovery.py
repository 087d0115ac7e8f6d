"""Recovery: what a stop has left on a disk is completed or removed."""

from onecopy.chest import Chest, record_places
from onecopy.engine import Engine
from onecopy.store import Store


def _records_of(disk, lines, day):
    """The addresses of the records of the day, ascending."""
    written = [address for address in record_places(disk, lines) if disk.read_cell(address) is not None]
    return [address for address in written if disk.read_cell(address)[1] == day]


def _has_line_of(disk, lines, day):
    """Whether some line has this day."""
    records = set(record_places(disk, lines))
    cells = disk.cells()
    return any([cell is not None and cell[0] == day for index, cell in enumerate(cells)
                if index > 1 and index not in records])


def _complete(disk, day, notes):
    """Make the missing ones of these notes of the day."""
    for index, change, links in notes:
        if disk.read_cell(index) is None:
            disk.write_cell(index, (day, change, links))


def _mend_day(disk):
    """Finish the day behind the last finished one, if it takes effect, otherwise remove what there is of it."""
    lines, last = disk.read_cell(0)
    day = last + 1
    records = _records_of(disk, lines, day)
    if records:
        # Only the record of the last new copy, which decides, has the notes of the day.
        notes = disk.read_cell(records[-1])[5]
        if notes is None:
            for address in records:
                disk.write_cell(address, None)
            return
        _complete(disk, day, notes)
    elif not _has_line_of(disk, lines, day):
        return
    disk.write_cell(0, (lines, day))


def mend(disk):
    """Complete what takes effect on the disk, and remove what does not."""
    _mend_day(disk)
    Chest(disk).remove_unreached()


def recover_engine(disk):
    """Mend the disk. Returns the engine that it holds."""
    mend(disk)
    return Engine.resumed(disk)


def recover_store(disk):
    """Mend the disk. Returns the store that it holds."""
    mend(disk)
    return Store.resumed(disk)
