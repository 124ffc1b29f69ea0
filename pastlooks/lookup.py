"""Looking up a row among the ascending moments of one stream."""

WAYS = ("at", "before", "since", "after")
BACKWARD = ("at", "before")


def count_before(moments, moment):
    """How many of the ascending moments lie before the moment."""
    low = 0
    high = len(moments)
    while low < high:
        middle = (low + high) // 2
        if moments[middle] < moment:
            low = middle + 1
        else:
            high = middle
    return low


def row_found(moments, way, moment):
    """The row that a look of this way finds from the moment, or None."""
    if way == "at":
        place = count_before(moments, moment + 1) - 1
    elif way == "before":
        place = count_before(moments, moment) - 1
    elif way == "since":
        place = count_before(moments, moment)
    else:
        place = count_before(moments, moment + 1)
    if 0 <= place < len(moments):
        return moments[place]
    return None


def row_within(moments, way, within, moment):
    """The row that a look of this way and limit finds from the moment, or None."""
    row = row_found(moments, way, moment)
    if row is None or within is None or abs(row - moment) <= within:
        return row
    return None
