"""Boards joined: cups of the one led to wheels of the other."""

from marblefall.boards import MOST_CUPS, MOST_WHEELS, has_parts, is_wheel_number, need_board
from marblefall.errors import NoLinks, TooMany


def are_links(one, other, thing):
    """Whether it is a tuple with, for each cup of the one board, None or the number of a wheel of the other."""
    cups = one[1]
    return has_parts(thing, cups, cups) and all([link is None or is_wheel_number(other, link) for link in thing])


def need_few(many, most):
    """Refuse more than the most."""
    if many > most:
        raise TooMany(many, most)


def ends_of_first(one, other, links):
    """For each end of the first board its number on the joined one."""
    ahead = len(one[0])
    cup = ahead + len(other[0])
    found = list(range(ahead))
    for link in links:
        if link is None:
            found.append(cup)
            cup += 1
        else:
            found.append(ahead + link)
    return found


def ends_of_second(one, other, links):
    """For each end of the second board its number on the joined one."""
    ahead = len(one[0])
    cup = ahead + len(other[0]) + links.count(None)
    return list(range(ahead, ahead + len(other[0]))) + list(range(cup, cup + other[1]))


def renumbered(wheels, numbers):
    """The wheels with each end given its new number."""
    return tuple([tuple([tuple([numbers[end] for end in step]) for step in steps]) for steps in wheels])


def joined(one, other, links):
    """The board of all wheels of both, with the cups of the first led to wheels of the second as the links tell."""
    need_board(one)
    need_board(other)
    if not are_links(one, other, links):
        raise NoLinks()
    cups = links.count(None) + other[1]
    need_few(len(one[0]) + len(other[0]), MOST_WHEELS)
    need_few(cups, MOST_CUPS)
    first = renumbered(one[0], ends_of_first(one, other, links))
    second = renumbered(other[0], ends_of_second(one, other, links))
    return first + second, cups
