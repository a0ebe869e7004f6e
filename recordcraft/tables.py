"""Tables of records."""

from recordcraft.errors import NoField
from recordcraft.records import shown

WIDTH = 10


def record_table(records, *names):
    """Returns a text with one line for the names and one line for each record."""
    rows = [[_cell_of(record, name) for name in names] for record in records]
    return "\n".join([_line_of(cells) for cells in [names, *rows]])


def _line_of(cells):
    return " | ".join([cell[:WIDTH].ljust(WIDTH) for cell in cells])


def _cell_of(record, name):
    if not record.has_field(name):
        raise NoField(name)
    if name not in record:
        return ""
    return shown(record[name])
