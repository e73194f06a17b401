"""Tasks: which rows they ask for, and which results they take as right."""

from neededrows.rows import is_sorted


def _has_sorted_parts(row, sizes):
    start = 0
    for size in sizes:
        if not is_sorted(row[start:start + size]):
            return False
        start += size
    return True


def _is_near(row, places):
    ordered = sorted(row)
    # An equal number within reach is enough: any of its places will do.
    reach = [ordered[max(0, k - places):k + places + 1] for k in range(len(row))]
    return all([number in within for number, within in zip(row, reach)])


def _rises_then_falls(row):
    top = row.index(max(row))
    return is_sorted(row[:top]) and is_sorted(row[top:][::-1])


def _is_bitonic(row):
    return any([_rises_then_falls(row[k:] + row[:k]) for k in range(len(row))])


def _is_selected(result, many):
    return all([low <= high for low in result[:many] for high in result[many:]])


def asked(wires, task, row):
    """Whether the task asks for the row."""
    kind = task[0]
    if kind == "merge":
        return _has_sorted_parts(row, (task[1], wires - task[1]))
    if kind == "parts":
        return _has_sorted_parts(row, task[1])
    if kind == "near":
        return _is_near(row, task[1])
    if kind == "bitonic":
        return _is_bitonic(row)
    return True


def right(task, row, result):
    """Whether a row with this result does right, asked or not."""
    kind = task[0]
    if kind == "select":
        return _is_selected(result, task[1])
    if kind == "ranks":
        ordered = sorted(row)
        return all([result[k] == ordered[k] for k in task[1]])
    return is_sorted(result)
