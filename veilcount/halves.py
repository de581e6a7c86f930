"""Half-opened audits: for each middle row of two orders, one of its two links is opened."""

from veilcount.perms import checked_order, factorial, undone


def honest_claims(first, second):
    """Return the links of the middle rows: their ends on the left, and their ends on the right."""
    return checked_order(first), undone(second)


def opened_claims(left, right, coins):
    """Return for each middle row the side that its coin opens, and the end that it claims there."""
    return [(coin, left[row] if coin == 0 else right[row]) for row, coin in enumerate(coins)]


def caught(left, right, coins):
    """Return the middle rows that are caught, ascending."""
    opened = opened_claims(left, right, coins)
    return [row for row, (side, end) in enumerate(opened) if end is None or (side, end) in opened[:row]]


def coins_of_number(rows, number):
    """Return the binary digits of a number as coins, the lowest one for the middle row 0."""
    return [(number >> row) % 2 for row in range(rows)]


def passing_plainly(left, right):
    """Return how many rows of coins catch nobody, by trying each."""
    rows = len(left)
    tried = [caught(left, right, coins_of_number(rows, number)) for number in range(1 << rows)]
    return tried.count([])


def passing(left, right):
    """Return how many rows of coins catch nobody, part by part."""
    links = links_of(left, right)
    if [] in links:
        return 0
    ways = 1
    for part in parts_of(links):
        ways = ways * passing_in(part, links)
    return ways


def links_of(left, right):
    """Return for each middle row the ends that it can show, each with its side."""
    both = [[(0, one), (1, other)] for one, other in zip(left, right)]
    return [[link for link in ends if link[1] is not None] for ends in both]


def parts_of(links):
    """Return the parts of the web, each as a list of ends."""
    parts = []
    for ends in links:
        apart = [part for part in parts if not _share(part, ends)]
        joined = [end for part in parts if _share(part, ends) for end in part]
        joined.extend([end for end in ends if end not in joined])
        parts = apart + [joined] if joined else apart
    return parts


def _share(part, ends):
    """Return whether a part has one of the ends."""
    return any([end in part for end in ends])


def passing_in(part, links):
    """Return how many rows of coins for the rows of a part catch nobody."""
    many = len(part)
    inside = [len(ends) for ends in links if _share(part, ends)]
    whole, half = inside.count(2), inside.count(1)
    if half == 0 and whole == many - 1:
        # Each of the ends may be the one that no row opens.
        return many
    if half == 0 and whole == many:
        # The rows of the only ring open their ends one way round or the other.
        return 2
    if half == 1 and whole == many - 1:
        return 1
    return 0


def worlds(coins):
    """Return how many pairs of orders show the same links as a pair of orders does."""
    lefts = coins.count(0)
    return factorial(lefts) * factorial(len(coins) - lefts)


def same_links(first, second, other_first, other_second, coins):
    """Return whether two pairs of orders show the same links."""
    left, right = honest_claims(first, second)
    other_left, other_right = honest_claims(other_first, other_second)
    return opened_claims(left, right, coins) == opened_claims(other_left, other_right, coins)
