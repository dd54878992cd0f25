"""Functions of names as masks: digit k tells the result for row k of the bits of the names, ascending.

A function is a pair of its names and its mask. Nothing here changes what it is passed.
"""

from loopgates.errors import TooMany

MOST_NAMES = 12


def low_mask(size, block):
    """Return the mask of so many rows in which each second block is missing, the second one first."""
    mask = (1 << block) - 1
    width = 2 * block
    while width < size:
        mask = mask | mask << width
        width = 2 * width
    return mask


def inserted(mask, many, at):
    """Return the mask of a function of so many names with one more name in place `at`, on which it does not depend."""
    size = 2 << many
    block = 1 << (many - at)
    step = size >> 2
    # The blocks move apart, first the two halves, then the halves of each half.
    while step >= block:
        mask = (mask | mask << step) & low_mask(size, step)
        step = step >> 1
    return mask | mask << block


def left_out(mask, many, at):
    """Return the mask of a function of so many names without the name in place `at`, on which it does not depend."""
    size = 1 << many
    block = size >> (at + 1)
    mask = mask & low_mask(size, block)
    step = block
    while 4 * step <= size:
        mask = (mask | mask >> step) & low_mask(size, 2 * step)
        step = 2 * step
    return mask


def halves(mask, many, at):
    """Return the masks of the function with the name in place `at` at 0 and at 1, over the same names."""
    block = (1 << many) >> (at + 1)
    chosen = low_mask(1 << many, block)
    low = mask & chosen
    high = mask >> block & chosen
    return low | low << block, high | high << block


def reduced(names, mask):
    """Return the function with only the names on which it depends."""
    kept = names
    for at in range(len(names) - 1, -1, -1):
        size = 1 << len(kept)
        block = size >> (at + 1)
        if not (mask ^ mask >> block) & low_mask(size, block):
            mask = left_out(mask, len(kept), at)
            kept = kept[:at] + kept[at + 1:]
    return kept, mask


def spread(names, mask, wider):
    """Return the mask of a function over an ascending tuple of more names."""
    if names == wider:
        return mask
    many = len(names)
    for at, name in enumerate(wider):
        if name not in names:
            mask = inserted(mask, many, at)
            many += 1
    return mask


def all_names(first, second):
    """Return the ascending tuple of the names of two functions."""
    return first if first == second else tuple(sorted(set(first + second)))


def without(function, names, every):
    """Return the function that is 1 if this one is 1 for some bits of these names, or for every bits of them."""
    own, mask = function
    for name in names:
        if name in own:
            low, high = halves(mask, len(own), own.index(name))
            mask = low & high if every else low | high
    return reduced(own, mask)


def held_at(function, bits):
    """Return the function with the names of a dict at its bits."""
    own, mask = function
    for at, name in enumerate(own):
        if name in bits:
            mask = halves(mask, len(own), at)[bits[name]]
    return reduced(own, mask)


def opposite(function):
    """Return the negated function."""
    names, mask = function
    return names, mask ^ ((1 << (1 << len(names))) - 1)


def limited(function):
    """Return the function, or raise TooMany if it has too many names."""
    if len(function[0]) > MOST_NAMES:
        raise TooMany(MOST_NAMES)
    return function


def both(first, second):
    """Return the function that is 1 where two functions are."""
    names = all_names(first[0], second[0])
    if len(names) > MOST_NAMES:
        # Without the parts that cannot matter, the result depends on each name that only one of them has.
        others = without(second, [name for name in second[0] if name not in first[0]], False)
        mine = without(first, [name for name in first[0] if name not in second[0]], False)
        first = both(first, others)
        second = both(second, mine)
        require_few(first[0], second[0])
        names = all_names(first[0], second[0])
    return limited(reduced(names, spread(first[0], first[1], names) & spread(second[0], second[1], names)))


def one_of(first, second):
    """Return the function that is 1 where exactly one of two functions is."""
    require_few(first[0], second[0])
    names = all_names(first[0], second[0])
    return limited(reduced(names, spread(first[0], first[1], names) ^ spread(second[0], second[1], names)))


def require_few(first, second):
    """Raise TooMany if there are too many names that are only in one of two tuples of names."""
    alone = [name for name in first if name not in second] + [name for name in second if name not in first]
    if len(alone) > MOST_NAMES:
        raise TooMany(MOST_NAMES)


def implied(first, second):
    """Return whether the second function is 1 wherever the first one is."""
    # Names of only one of them are taken away first, so that few are left.
    names, mask = without(first, [name for name in first[0] if name not in second[0]], False)
    others, other_mask = without(second, [name for name in second[0] if name not in first[0]], True)
    wider = all_names(names, others)
    return not spread(names, mask, wider) & ~spread(others, other_mask, wider)
