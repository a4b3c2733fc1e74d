"""Rows: which rows of classes come after histories, and how many values are needed at most."""

from heldranks.charts import check_chart, is_class
from heldranks.errors import InvalidClass, InvalidCount, TooMany
from heldranks.holders import held_tick
from heldranks.values import BOTTOM, TOP, all_ends, are_under, is_count, is_integer, is_list, tuples_of
from heldranks.walks import first_parted

_MOST_ROWS = 200


def rows_of(chart):
    """Return the list of the rows of a chart, ordered by their length, then as tuples."""
    return sorted(_reached_rows(chart), key=_order_of)


def most_needed(chart):
    """Return the greatest number of values that are needed after one history."""
    return max([len(row) for row in _reached_rows(chart)]) - 1


def most_ticks(chart):
    """Return the least number of ticks of a history after which so many values are needed."""
    return len(_way_to_most(chart))


def most_history(chart):
    """Return a history with this number of ticks after which so many values are needed."""
    way = _way_to_most(chart)
    # Each tick leaves at least a quarter of the room that there was between two values.
    room = 1 << (2 * len(way) + 4)
    cells, row, history = (), (0,), []
    for behind in way:
        letter, values = _tick_to(chart, cells, row, behind, room)
        _, cells, row = held_tick(chart, cells, row, letter, values)
        history.append((letter, values))
    return _with_small_values(history)


def rows_paper(chart):
    """Return a paper of rows for the most needed number."""
    return rows_of(chart)


def is_rows_paper(chart, many, value):
    """Tell whether any value is a paper of rows for a number."""
    check_chart(chart)
    if not is_count(many):
        raise InvalidCount(many)
    if not is_list(value) or not all([_has_classes(chart, row) and len(row) <= many + 1 for row in value]):
        return False
    if not _are_rising(chart, value):
        return False
    known = {row: True for row in value}
    if (0,) not in known:
        return False
    return all([behind in known for row in known for behind in _rows_behind(chart, row)])


def rows_from(chart, row):
    """Return the list of all rows that a tick of a holder with this row, and any cells, can make of it."""
    check_chart(chart)
    if not _has_classes(chart, row) or not _are_rising(chart, [row]):
        raise InvalidClass(row)
    return sorted(_rows_behind(chart, row), key=_order_of)


def _order_of(row):
    """Return by what a row is ordered."""
    return (len(row), row)


def _has_classes(chart, value):
    """Tell whether any value is a tuple of one or more classes of which no two neighbours are equal."""
    if not isinstance(value, tuple) or not value or not all([is_class(number, len(chart)) for number in value]):
        return False
    return all([number != after for number, after in zip(value, value[1:])])


def _are_rising(chart, rows):
    """Tell whether in tuples of classes each class is at most the next one."""
    starts = [(number, after) for row in rows for number, after in zip(row, row[1:])]
    steps = chart.step_lists()
    return first_parted(starts, chart.moves(), steps, steps, are_under) is None


def _reached_rows(chart):
    """Return a dict from the rows, as they are met, to the row before, None for the first one."""
    check_chart(chart)
    found = {(0,): None}
    waiting = [(0,)]
    at = 0
    while at < len(waiting):
        row = waiting[at]
        for behind in _rows_behind(chart, row):
            if behind not in found:
                found[behind] = row
                waiting.append(behind)
        if len(found) > _MOST_ROWS:
            raise TooMany("rows", _MOST_ROWS)
        at += 1
    return found


def _way_to_most(chart):
    """Return the least list of the rows behind the first one, up to one with as many classes as there can be."""
    came = _reached_rows(chart)
    row = max(list(came), key=len)
    way = []
    while came[row] is not None:
        way.append(row)
        row = came[row]
    return way[::-1]


def _rows_behind(chart, row):
    """Return the list of all rows that a tick of a holder with a row, and any cells, can make of it."""
    found = {}
    for letter in chart.letters:
        for behind in _rows_by(chart, row, letter):
            found[behind] = True
    return list(found)


def _rows_by(chart, row, letter):
    """Return the list of all rows that a tick with a letter can make of a row, some of them more than once.

    From the greatest level to the least one, the row goes on to its next class at each cell, and an input goes from
    BOTTOM to TOP at its value, which stands at a cell or between two of them.
    """
    ways = {ends: [()] for ends in all_ends(chart.inputs)}
    for number in row:
        ways = _ways_through(chart, ways, number, letter)
    return [way for ends in ways for way in ways[ends]]


def _ways_through(chart, ways, number, letter):
    """Return for all ENDS of the inputs the rows that are made up to a level at which they have these ENDS.

    The level is one at which the holder has this class; the ways that are passed are those up to the class before.
    """
    found = {}
    for ends in ways:
        arrived = [way for lower in ways if are_under(lower, ends) for way in ways[lower]]
        raised = [way for lower in found if are_under(lower, ends) for way in found[lower]]
        behind = chart.class_behind(number, letter, ends)
        made = {_with_class(way, behind): True for way in arrived + raised}
        found[ends] = list(made)
    return found


def _with_class(way, number):
    """Return a tuple of classes with one more, unless that is the last one already."""
    return way if way and way[-1] == number else (*way, number)


def _tick_to(chart, cells, row, behind, room):
    """Return a tick that makes a row of another one, for some cells between 0 and this room."""
    choices = tuples_of(_values_among(cells, room), chart.inputs)
    ticks = [(letter, values) for letter in chart.letters for values in choices]
    at = 0
    # One of them does, since only the places of the values among the cells are of effect.
    while _row_by(chart, cells, row, ticks[at]) != behind:
        at += 1
    return ticks[at]


def _row_by(chart, cells, row, tick):
    """Return the row that a tick makes of a row, for some cells."""
    letter, values = tick
    _, _, behind = held_tick(chart, cells, row, letter, values)
    return behind


def _values_among(cells, room):
    """Return a list of values: the ENDS, the cells, and two between each two of them, 0 and the room."""
    marks = (room, *cells, 0)
    found = [BOTTOM, TOP, *cells]
    for upper, lower in zip(marks, marks[1:]):
        third = (upper - lower) // 3
        found.extend([lower + third, lower + 2 * third])
    return found


def _with_small_values(history):
    """Return a history whose INTEGERS stand in the same order, and are 1, 2 and so on."""
    used = sorted(set([value for _, values in history for value in values if is_integer(value)]))
    small = {value: 1 + k for k, value in enumerate(used)}
    return [(letter, tuple([small.get(value, value) for value in values])) for letter, values in history]
