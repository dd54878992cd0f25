"""Diagrams of functions, level by level, and their texts."""


def levels_of(many, mask):
    """Return a list with, for each of so many names, the dict from the functions that are met there to their halves.

    Each function is a mask over this name and all later ones, its halves
    are those with the name at 0 and at 1.
    """
    found = []
    masks = [mask]
    for at in range(many):
        half = (1 << (many - at)) >> 1
        lower = (1 << half) - 1
        level = {function: (function & lower, function >> half) for function in masks}
        found.append(level)
        masks = [function for pair in level.values() for function in pair]
    return found


def diagram_nodes(many, mask):
    """Return the list of the nodes of the diagram of a function of so many names."""
    return [low for level in levels_of(many, mask) for low, high in level.values() if low != high]


def enclosed(text):
    """Return the text in parentheses if it is not a bit."""
    return text if text in ("0", "1") else f"({text})"


def branch_text(name, low, high):
    """Return the text of a function by the texts of its halves."""
    return low if low == high else f"{name} ? {enclosed(high)} : {enclosed(low)}"


def diagram_text(names, mask):
    """Return the text of a function."""
    texts = {0: "0", 1: "1"}
    for name, level in reversed(list(zip(names, levels_of(len(names), mask)))):
        texts = {function: branch_text(name, texts[low], texts[high]) for function, (low, high) in level.items()}
    return texts[mask]
