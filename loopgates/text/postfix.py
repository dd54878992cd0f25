"""Expressions as tuples of signs in the order of their values: `a & ~b` is `a`, `b`, `~`, `&`.

Nothing here calls itself, so expressions may be nested as deep as they are long.
"""

from loopgates.base.names import UNKNOWN, is_name

MOST_SIGNS = 200
BITS = {"0": 0, "1": 1}
NOT = "~"
# How close the operators bind.
STRENGTHS = {"|": 1, "^": 2, "&": 3, "~": 4}
WHOLE = 5
# The values by those of the first operand and, in each row, of the second one.
RESULTS = {
    "&": ((0, 0, 0), (0, 1, 2), (0, 2, 2)),
    "^": ((0, 1, 2), (1, 0, 2), (2, 2, 2)),
    "|": ((0, 1, 2), (1, 1, 1), (2, 1, 2)),
}
OPPOSITES = (1, 0, UNKNOWN)
SINGLE_SIGNS = "01~&^|()"


def names_in(signs):
    """Return the ascending tuple of the names in an expression."""
    return tuple(sorted({sign for sign in signs if sign not in STRENGTHS and sign not in BITS}))


def split_signs(text):
    """Return the list of the signs of a text; what is no sign, but has no blanks in it, stands in it, too."""
    for sign in SINGLE_SIGNS:
        text = text.replace(sign, " " + sign + " ")
    return [sign for sign in text.split(" ") if sign]


def emptied(waiting, found, strength):
    """Move the last operators that bind at least so close from one list to another one."""
    while waiting and waiting[-1] != "(" and STRENGTHS[waiting[-1]] >= strength:
        found.append(waiting.pop())


def parsed(text):
    """Return the expression of a text, or None if there is none."""
    found = []
    # The operators and opening parentheses whose operands have not all been read.
    waiting = []
    ready = False
    for sign in split_signs(text):
        # Behind an operand comes an operator or a closing parenthesis, otherwise the beginning of one.
        if ready != (sign in RESULTS or sign == ")"):
            return None
        if sign == "(" or sign == NOT:
            waiting.append(sign)
        elif sign == ")":
            emptied(waiting, found, 0)
            if not waiting:
                return None
            waiting.pop()
        elif sign in RESULTS:
            emptied(waiting, found, STRENGTHS[sign])
            waiting.append(sign)
            ready = False
        elif sign in BITS or is_name(sign):
            found.append(sign)
            ready = True
        else:
            return None
    emptied(waiting, found, 0)
    return tuple(found) if ready and not waiting and len(found) <= MOST_SIGNS else None


def enclosed(text, close):
    """Return the text, in parentheses if it does not bind close enough."""
    return text if close else f"({text})"


def written(signs):
    """Return the text of an expression."""
    stack = []
    for sign in signs:
        if sign not in STRENGTHS:
            stack.append((sign, WHOLE))
            continue
        strength = STRENGTHS[sign]
        text, own = stack.pop()
        if sign == NOT:
            inner = enclosed(text, own >= strength)
            stack.append((f"{NOT}{inner}", strength))
        else:
            # Operators are read from the left, so an equal one on the right has to stand in parentheses.
            first, other = stack.pop()
            left = enclosed(first, other >= strength)
            right = enclosed(text, own > strength)
            stack.append((f"{left} {sign} {right}", strength))
    return stack[0][0]


def valued(signs, values):
    """Return the value of an expression, for a dict from its names to values."""
    stack = []
    for sign in signs:
        if sign in RESULTS:
            second = stack.pop()
            stack.append(RESULTS[sign][stack.pop()][second])
        elif sign == NOT:
            stack.append(OPPOSITES[stack.pop()])
        else:
            stack.append(BITS[sign] if sign in BITS else values[sign])
    return stack[0]
