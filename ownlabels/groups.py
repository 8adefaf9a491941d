"""Groups of numbers that lead to each other, as the states of a search do by their steps."""


def group_numbers(following):
    """Return the list of the groups of the numbers 0, 1 and so on, where following[k] lists what follows k.

    Numbers that lead to each other are in one group, each other number is in a group of its own.
    Groups are numbered from 0, and what leads out of a group leads to groups with lower numbers.
    """
    groups = [-1] * len(following)
    count = 0
    # By Kosaraju and Sharir: the number left last, going backwards, is in a group that leads to no
    # other one; without this group the same holds for the number left last of the others.
    order = _order_of_leaving(_reversed_steps(following))
    for begin in order[::-1]:
        if groups[begin] < 0:
            members = _members(following, groups, begin)
            for number in members:
                groups[number] = count
            count += 1
    return groups


def _reversed_steps(following):
    """Return for each number the list of what it follows."""
    before = [[] for _ in following]
    for number, row in enumerate(following):
        for after in row:
            before[after].append(number)
    return before


def _order_of_leaving(following):
    """Return the numbers in the order in which a walk in depth leaves them."""
    order = []
    met = [False] * len(following)
    for begin in range(len(following)):
        # The walk keeps its path in a list, because it may be too long for calls of calls.
        path = [] if met[begin] else [(begin, list(following[begin]))]
        met[begin] = True
        while path:
            number, left = path[-1]
            if not left:
                order.append(number)
                path.pop()
            else:
                after = left.pop()
                if not met[after]:
                    met[after] = True
                    path.append((after, list(following[after])))
    return order


def _members(following, groups, begin):
    """Return a list of begin and of all that it leads to among what is in no group yet."""
    members = [begin]
    found = {begin: True}
    at = 0
    # No loop over the members, because they become more in it.
    while at < len(members):
        here = members[at]
        for after in following[here]:
            if groups[after] < 0 and after not in found:
                found[after] = True
                members.append(after)
        at += 1
    return members
