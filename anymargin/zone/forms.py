"""What steps make of the closed forms of zones, without checks; None is the form of an empty zone."""
from anymargin.zone.closing import closed_form, lesser_bound


def zero_form(clocks):
    """The form of the zone with just the readings 0."""
    return ((0,) * (clocks + 1),) * (clocks + 1)


def point_form(numbers):
    """The form of the zone with just these readings."""
    row = (0,) + tuple(numbers)
    return tuple([tuple([one - other for other in row]) for one in row])


def least_numbers(form):
    """The least readings."""
    return [-bound for bound in form[0][1:]]


def met_form(form, other):
    """The form of the points that are in both of two zones, of which none is empty."""
    rows = [[lesser_bound(bound, more) for bound, more in zip(row, further)] for row, further in zip(form, other)]
    return closed_form(rows)


def late_rows(form):
    """The form without what bounds a reading from above: differences and least readings stay as time goes by."""
    return [form[0]] + [(None,) + row[1:] for row in form[1:]]


def later_form(form, tops):
    """The form of what is come to by a wait, with no reading above its top."""
    if form is None:
        return None
    return cut_form(late_rows(form), (0,) * len(tops), tops)


def earlier_form(form):
    """The form of the readings from which some wait leads to a point."""
    if form is None:
        return None
    return closed_form([(0,) * len(form)] + list(form[1:]))


def put_back_form(form, clocks):
    """The form of the points with some clocks at 0."""
    if form is None:
        return None
    # A clock that is put back stands where the number 0 does: sums of rows stay least ones.
    places = [0 if at - 1 in clocks else at for at in range(len(form))]
    return tuple([tuple([form[i][j] for j in places]) for i in places])


def freed_form(form, clocks):
    """The form of the readings that are points with some clocks at 0."""
    if form is None:
        return None
    highs = [0 if clock in clocks else None for clock in range(len(form) - 1)]
    held = cut_form(form, (0,) * len(highs), highs)
    if held is None:
        return None
    places = [-1 if at - 1 in clocks else at for at in range(len(form))]
    return closed_form([[None if -1 in (i, j) else held[i][j] for j in places] for i in places])


def cut_form(form, lows, highs):
    """The form of the points with each reading at least its low and at most its high number, None for no bound."""
    if form is None:
        return None
    first = [0] + [min(bound, -low) for bound, low in zip(form[0][1:], lows)]
    others = [(lesser_bound(row[0], high),) + row[1:] for row, high in zip(form[1:], highs)]
    return closed_form([first] + others)


def step_form(form, stretch, resets):
    """The form of what is behind a door: it is gone through, after a wait, with the readings of the stretch."""
    if form is None:
        return None
    lows, highs = stretch
    return put_back_form(cut_form(late_rows(form), lows, highs), resets)


def back_form(form, stretch, resets):
    """The form of the readings from which such a step leads to a point."""
    lows, highs = stretch
    return earlier_form(cut_form(freed_form(form, resets), lows, highs))
