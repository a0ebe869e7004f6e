"""Lines of kinds: their order from the kinds above, and the rings that leave them without one."""

from recordcraft.errors import InvalidAnswer, InvalidKind


class Lined:
    """What kinds are known by in the files that kinds.py imports."""


def check_ring(above, ring):
    """Returns the number of kinds of a ring of a tuple of kinds above."""
    if not isinstance(ring, tuple) or len(ring) < 2:
        raise InvalidAnswer("form")
    rows = _rows_of(above)
    for place in range(len(ring)):
        if not _is_in_rows(ring[place], rows):
            raise InvalidAnswer("kind")
        # The place before the first one is -1, and so the last one.
        if not _is_before(ring[place - 1], ring[place], rows):
            raise InvalidAnswer("order")
    return len(ring)


def line_above(above):
    """Returns the line behind a kind itself as a list; raises InvalidKind with a ring if there is none."""
    rows = _without(None, _rows_of(above))
    line = []
    while rows:
        head = _free_head(rows)
        if head is None:
            raise InvalidKind("line", _ring_in(rows))
        line.append(head)
        rows = _without(head, rows)
    return line


def _rows_of(above):
    return [kind.line for kind in above] + [above]


def _free_head(rows):
    """The head of the first row whose head stands behind no head, or None."""
    for row in rows:
        if _head_of_row_with(row[0], rows) is None:
            return row[0]
    return None


def _head_of_row_with(kind, rows):
    """The head of the first row in which the kind stands behind the head, or None."""
    for row in rows:
        if kind != row[0] and kind in row:
            return row[0]
    return None


def _without(head, rows):
    """The rows without this kind, and without those that are empty then."""
    rest = [[kind for kind in row if kind != head] for row in rows]
    return [row for row in rest if row]


def _ring_in(rows):
    """A ring of rows in each of which the head stands behind the head of another one."""
    path = [rows[0][0]]
    while True:
        head = _head_of_row_with(path[-1], rows)
        if head in path:
            ring = path[path.index(head):]
            # Each kind of the path stands behind the next one.
            return tuple(ring[::-1])
        path.append(head)


def _is_in_rows(value, rows):
    # Other values than kinds are not compared: they could equal anything.
    return isinstance(value, Lined) and any([value in row for row in rows])


def _is_before(first, second, rows):
    if not isinstance(first, Lined):
        return False
    for row in rows:
        if first in row and second in row and row.index(first) < row.index(second):
            return True
    return False
