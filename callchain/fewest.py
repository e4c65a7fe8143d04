"""In what turn each calls so that all know behind the fewest rounds, and marks that show that no fewer do."""

from callchain.news import all_rounds, is_number, is_orders


def rows_of(ups):
    """For each person those that it calls by the ups, rising."""
    rows = [[] for person in range(len(ups) + 1)]
    for person, up in enumerate(ups, start=1):
        rows[up].append(person)
    return rows


def longest_first(row, marks):
    """The row with those ahead that need the most rounds for all below them."""
    return sorted(row, key=lambda called: -marks[called])


def rounds_needed(row, marks):
    """How many rounds one needs, from when it knows on, till all below it know."""
    return max([at + marks[called] for at, called in enumerate(row, start=1)], default=0)


def best_orders(ups):
    """A pair: orders by which all know behind the fewest rounds, and marks that show it."""
    orders = []
    marks = [0 for person in range(len(ups) + 1)]
    # Who is called has a greater count than its caller, so from the last one on the marks below are known.
    for person, row in reversed(list(enumerate(rows_of(ups)))):
        turned = longest_first(row, marks)
        marks[person] = rounds_needed(turned, marks)
        orders.append(turned)
    return orders[::-1], marks


def is_fewest(orders, marks, ups):
    """Whether the orders are of the ups and the marks show that no others bring fewer rounds."""
    if not are_orders_of(orders, ups) or not are_shown(marks, orders):
        return False
    return marks[0] == len(all_rounds(orders, []))


def are_orders_of(orders, ups):
    """Whether they are orders in which each calls just those that the ups tell."""
    if not is_orders(orders) or len(orders) != len(ups) + 1:
        return False
    return [sorted(row) for row in orders] == rows_of(ups)


def are_shown(marks, orders):
    """Whether there is a number from 0 on for each person, and each of them is shown."""
    if not isinstance(marks, list) or len(marks) != len(orders):
        return False
    if not all(is_number(mark) and mark >= 0 for mark in marks):
        return False
    return all(is_shown(mark, row, marks) for mark, row in zip(marks, orders))


def is_shown(mark, row, marks):
    """Whether the mark of one that calls this row is 0, or so many in the row have marks that make it be."""
    for many in range(1, len(row) + 1):
        late = [called for called in row if marks[called] >= mark - many]
        if len(late) >= many:
            return True
    return mark == 0
