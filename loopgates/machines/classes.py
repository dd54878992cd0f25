"""Classes of things that cannot be told apart."""


def root_of(roots, at):
    """Return the number that stands for the class of a number, and shorten the way to it."""
    while roots[at] != at:
        roots[at] = roots[roots[at]]
        at = roots[at]
    return at


def united(roots, one, other):
    """Make one class of those of two numbers, and return whether they were two."""
    first = root_of(roots, one)
    second = root_of(roots, other)
    roots[second] = first
    return first != second


def ways_to(following):
    """Return the list with, for each kind of move, the lists of the numbers from which it leads to each number."""
    found = []
    for leads in following:
        before = [[] for _ in leads]
        for at, to in enumerate(leads):
            before[to].append(at)
        found.append(before)
    return found


def numbered(values):
    """Return a list with the same number for equal values, from 0 in the order in which they come first."""
    numbers = {}
    return [numbers.setdefault(value, len(numbers)) for value in values]


def split_class(members, class_of, number, some):
    """Take some members out of a class and make a new one of them."""
    for at in some:
        del members[number][at]
        class_of[at] = len(members)
    members.append({at: True for at in some})


def refined(kinds, following):
    """Return a list of the classes of numbers that have the same kind, and so have all that moves lead to.

    `following` has, for each kind of move, the list of where it leads from
    each number. This is Hopcroft's way: of two halves of a class, only the
    smaller one has to be looked at.
    """
    class_of = numbered(kinds)
    members = [{} for _ in sorted(set(class_of))]
    for at, number in enumerate(class_of):
        members[number][at] = True
    before = ways_to(following)
    waiting = list(range(len(members)))
    is_waiting = [True for _ in members]
    while waiting:
        splitter = waiting.pop()
        is_waiting[splitter] = False
        chosen = list(members[splitter])
        for sources in before:
            touched = {}
            for to in chosen:
                for at in sources[to]:
                    touched.setdefault(class_of[at], []).append(at)
            for number, some in touched.items():
                if len(some) == len(members[number]):
                    continue
                split_class(members, class_of, number, some)
                fresh = len(members) - 1
                is_waiting.append(False)
                if is_waiting[number] or len(some) <= len(members[number]):
                    lesser = fresh
                else:
                    lesser = number
                is_waiting[lesser] = True
                waiting.append(lesser)
    return class_of
