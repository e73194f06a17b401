"""The rows that are enough to know whether a network does a task."""

from neededrows.rows import is_sorted, noughts, plain_rows
from neededrows.tasks import asked, right


def _is_needed(wires, task, row):
    if is_sorted(row):
        return False
    kind = task[0]
    if kind == "select":
        return noughts(row) == task[1]
    if kind == "ranks":
        many = noughts(row)
        return many in task[1] or many - 1 in task[1]
    return asked(wires, task, row)


def needed(wires, task):
    """The list of the needed rows of a task, ascending."""
    return [row for row in plain_rows(wires) if _is_needed(wires, task, row)]


def does(network, task):
    """Whether a standard network does a task, and if not, the first needed row that fails."""
    for row in needed(network.wires, task):
        if not right(task, row, network.run(row)):
            return (False, row)
    return (True, None)
