"""Seatings: whether all who want a block can be given one, which one each is told, and who is left out if not.

A want is for one of some choices, from its start on, up to its end (without that very minute). A choice, like
whatever is given away, is told by the bits of its tables.
"""


class Want:
    def __init__(self, start, end, choices):
        self.start = start
        self.end = end
        self.choices = choices


def count_of_choices(want):
    return len(want.choices)


def wants_beside(wants, start, end, tables):
    left = []
    for want in wants:
        if want.start < end and start < want.end:
            choices = [choice for choice in want.choices if not choice & tables]
            left.append(Want(want.start, want.end, choices))
        else:
            left.append(want)
    return left


def can_all_be_given(wants):
    if not wants:
        return True
    # The one with the fewest choices goes first: a want without any ends the search at once.
    ordered = sorted(wants, key=count_of_choices)
    want = ordered[0]
    for tables in want.choices:
        if can_all_be_given(wants_beside(ordered[1:], want.start, want.end, tables)):
            return True
    return False


def first_choice(want, rest):
    for tables in want.choices:
        if can_all_be_given(wants_beside(rest, want.start, want.end, tables)):
            return tables
    return None


def seating_told(wants):
    # Only for wants that can all be given: each choice leaves the rest such, so none comes to nothing.
    given = []
    left = wants
    while left:
        want = left[0]
        tables = first_choice(want, left[1:])
        given.append(tables)
        left = wants_beside(left[1:], want.start, want.end, tables)
    return given


def lists_of_places(count):
    lists = [[]]
    for place in range(count):
        lists = lists + [places + [place] for places in lists]
    # The shorter ones first, of one length the lesser ones: the first that will do is then the one asked for.
    return sorted(sorted(lists), key=len)


def without(wants, places):
    return [want for place, want in enumerate(wants) if place not in places]


def fewest_left_out(wants):
    lists = lists_of_places(len(wants))
    tried = 0
    # The last list leaves all out, and then there is nothing to be given: the loop ends.
    while not can_all_be_given(without(wants, lists[tried])):
        tried += 1
    return lists[tried]
