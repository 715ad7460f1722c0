"""What several files need: whole numbers, counts of things, exchanges of neighbours, ways by single steps."""

from crossbends.errors import BadCount

MOST_THINGS = 5


def is_whole(thing):
    """Whether this is a whole number; True and False are none."""
    return isinstance(thing, int) and not isinstance(thing, bool)


def is_within(thing, least, most):
    """Whether this is a whole number from least to most."""
    return is_whole(thing) and least <= thing <= most


def check_count(many):
    """Refuse what is no number of unknowns or of things."""
    if not is_within(many, 1, MOST_THINGS):
        raise BadCount("a count is a whole number from 1 to 5")


def swapped(row, k):
    """The tuple with its entries at k and k + 1 exchanged."""
    return row[:k] + (row[k + 1], row[k]) + row[k + 2:]


def ways_from(start, steps):
    """For each list that steps lead to from the start, the one ahead of it on a shortest way; None for the start."""
    came_from = {tuple(start): None}
    reached = [start]
    done = 0
    while done < len(reached):
        now = reached[done]
        for following in steps(now):
            if tuple(following) not in came_from:
                came_from[tuple(following)] = now
                reached.append(following)
        done += 1
    return came_from


def way_back(came_from, goal):
    """The lists from the goal back to the start, each of them new."""
    way = []
    now = goal
    while now is not None:
        way.append(list(now))
        now = came_from[tuple(now)]
    return way
