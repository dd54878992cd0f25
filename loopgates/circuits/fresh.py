"""Names for the gates of circuits that are made of others."""

LETTERS = "abcdefghijklmnopqrstuvwxyz"


def fresh_names(many, taken):
    """Return an ascending list of so many names of three letters, none of which is in a dict."""
    names = []
    number = 0
    while len(names) < many:
        name = LETTERS[number // 676] + LETTERS[number // 26 % 26] + LETTERS[number % 26]
        if name not in taken:
            names.append(name)
        number += 1
    return names
