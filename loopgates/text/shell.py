"""A shell: a bench that is asked by lines of text."""

from loopgates.base.names import is_name
from loopgates.base.tables import built_table, has_word_table, is_word
from loopgates.bench.bench import Bench
from loopgates.circuits.circuits import make_circuit
from loopgates.errors import InvalidCommand, ParseError
from loopgates.formulas.settles import settles_formula
from loopgates.text.formats import SIGN_VALUES, VALUE_SIGNS, circuit_text, lines_text, read_table, values_text

MOST_DIGITS = 40
# For each word its parts behind it; a table has its sources behind it.
PARTS = {
    "gate": ("name", "table"),
    "remove": ("name",),
    "input": ("name",),
    "lose": ("name",),
    "set": ("name", "value"),
    "undo": ("number",),
    "redo": ("number",),
    "watch": ("name",),
    "unwatch": ("name",),
    "known": (),
    "setting": (),
    "why": ("name",),
    "when": ("name", "bit"),
    "circuit": (),
}


def read_number(text):
    """Return the integer of a text, or None if it is not written as it must be."""
    digits = text.removeprefix("-")
    if not digits.isascii() or not digits.isdigit() or len(digits) > MOST_DIGITS:
        return None
    if digits.startswith("0") and text != "0":
        return None
    return int(text)


def read_word_table(text, sources):
    """Return the table of a text of bits, or of a word with so many sources, or None."""
    if is_word(text):
        return built_table(text, len(sources)) if has_word_table(text, len(sources)) else None
    return read_table(text)


def read_part(kind, text):
    """Return what a part of a command stands for, or None if it is not written as it must be."""
    if kind == "name":
        return text if is_name(text) else None
    if kind == "value":
        return SIGN_VALUES.get(text)
    if kind == "bit":
        return SIGN_VALUES.get(text) if text != "?" else None
    return read_number(text)


def is_command(line):
    """Return whether the value is a string whose first part is a word for a command."""
    return type(line) is str and line.partition(" ")[0] in PARTS


def split_command(line):
    """Return the word of a command and the list of its parts, or raise InvalidCommand."""
    if not is_command(line):
        raise InvalidCommand("not a line with a known word")
    word, *parts = line.split(" ")
    many = len(PARTS[word])
    if "" in parts or len(parts) < many or (len(parts) > many and word != "gate"):
        raise InvalidCommand("too few or too many parts, or an empty one")
    return word, parts


def read_command(word, parts):
    """Return the list of what the parts of a command stand for, or raise ParseError."""
    if word == "gate":
        name, text, *sources = parts
        found = [read_part("name", part) for part in [name, *sources]] + [read_word_table(text, sources)]
    else:
        found = [read_part(kind, part) for kind, part in zip(PARTS[word], parts)]
    if None in found:
        raise ParseError("a part is not written as it must be")
    return found


def sign_of(value):
    """Return the sign of a value, or of None for a gate that is not there."""
    return "-" if value is None else VALUE_SIGNS[value]


def news_text(news):
    """Return the text of news."""
    return ", ".join([f"{name} {sign_of(before)}>{sign_of(after)}" for name, before, after in news]) or "none"


def why_text(paper):
    """Return the text of a settling paper or a value paper."""
    if paper[0] == "flips":
        return "flips"
    return "unknown" if paper[0] == "steady" else f"derived {lines_text(paper[-1])}"


def when_text(circuit, name, bit):
    """Return how many settings there are at which a gate is derived with a bit, and the first one if there is one."""
    formula = settles_formula(circuit, name, bit)
    first = formula.first(circuit[0])
    total = formula.total(circuit[0])
    return str(total) if first is None else f"{total} {values_text(first)}"


def answer_of(bench, word, found):
    """Carry out a command that has been read, and return its answer."""
    if word == "gate":
        name, *sources, table = found
        return news_text(bench.apply((word, name, tuple(sources), table)))
    if word in ("remove", "input", "lose", "set"):
        return news_text(bench.apply((word, *found)))
    if word == "undo":
        return news_text(bench.undo(many=found[0]))
    if word == "redo":
        return news_text(bench.redo(many=found[0]))
    if word == "watch":
        bench.watch(found[0])
        return VALUE_SIGNS[bench[found[0]]]
    if word == "unwatch":
        bench.unwatch(found[0])
        return "ok"
    if word == "known":
        return values_text(bench.known)
    if word == "setting":
        return values_text(bench.setting)
    if word == "why":
        return why_text(bench.why(found[0]))
    if word == "when":
        return when_text(bench.circuit, found[0], found[1])
    return circuit_text(bench.circuit, " / ")


class Shell:
    """A bench under commands, which are lines of text."""

    def __init__(self, *inputs):
        self._bench = Bench(make_circuit(*inputs))
        self._many = 0

    def run(self, line):
        """Carry out a command and return its answer."""
        word, parts = split_command(line)
        text = answer_of(self._bench, word, read_command(word, parts))
        self._many += 1
        return text

    def answers(self, *lines):
        """Yield the answers of commands; each one is carried out when its answer is asked for."""
        for line in lines:
            yield self.run(line)

    def bench(self):
        """Return a twin of the bench that has its watched gates."""
        return self._bench.watching_twin()

    def __contains__(self, line):
        return is_command(line)

    def __len__(self):
        # A list, because L28 lets no length of a range stand here where a class of the package has items.
        return len(list(range(self._many)))

    def __str__(self):
        return f"shell with {self._many} answers"
