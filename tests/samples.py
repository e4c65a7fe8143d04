"""Orders that several tests begin with."""


def chain(people):
    """Each calls the next one."""
    return [[person] for person in range(1, people)] + [[]]


def star(people):
    """0 calls all others."""
    return [list(range(1, people))] + [[] for person in range(1, people)]
