"""Words, values and rows, and their order."""


def is_word(text):
    """Tell if a string is a word."""
    return text != "" and all(["a" <= sign <= "z" for sign in text])


def is_value(value):
    """Tell if an integer or a string is a value."""
    return isinstance(value, int) or is_word(value)


def is_row(row):
    """Tell if a tuple of integers and strings is a row."""
    return all([is_value(value) for value in row])


def compare_values(left, right):
    """Return -1, 0 or 1, as the left value comes before, is, or comes behind the right one."""
    low, high = value_key(left), value_key(right)
    if low < high:
        return -1
    if low > high:
        return 1
    return 0


def sorted_rows(rows):
    """Return a list of the rows in ascending order without duplicates."""
    different = []
    for row in sorted(rows, key=row_key):
        if not different or different[-1] != row:
            different.append(row)
    return different


def value_key(value):
    """Return what Python orders as values are ordered.

    Python cannot compare an integer with a string; the leading number puts all
    integers before all words, so that it never has to.
    """
    if isinstance(value, int):
        return (0, value)
    return (1, value)


def row_key(row):
    """Return what Python orders as rows are ordered."""
    return tuple([value_key(value) for value in row])
