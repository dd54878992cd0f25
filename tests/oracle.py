"""The definitions of the document, word by word and without regard to speed."""

from tests.samples import all_rows


def result(table, bits):
    """Return the element at the position whose binary digits are the bits."""
    return table[int("".join(str(bit) for bit in bits) or "0", 2)]


def extensions(row):
    """Return all rows of bits that continue the row."""
    return [bits for bits in all_rows((0, 1), len(row)) if all(v in (2, b) for v, b in zip(row, bits))]


def forced(table, row):
    """Return the bit that the row forces, or 2."""
    results = {result(table, bits) for bits in extensions(row)}
    return results.pop() if len(results) == 1 else 2


def known(circuit, setting):
    """Return the dict of the known values: the least solution, from below."""
    inputs, gates = circuit
    values = {**setting, **{name: 2 for name, _, _ in gates}}
    while True:
        after = {name: forced(table, [values[source] for source in sources]) for name, sources, table in gates}
        if all(values[name] == after[name] for name in after):
            return after
        values.update(after)


def rank_dict(circuit, setting):
    """Return the dict of the ranks, each the least r at which the bits of lesser ranks are enough."""
    inputs, gates = circuit
    bits = known(circuit, setting)
    found = {}
    for rank in range(1, len(gates) + 1):
        row_values = {**setting, **{name: bits[name] if name in found else 2 for name, _, _ in gates}}
        fresh = [
            name for name, sources, table in gates
            if name not in found and forced(table, [row_values[source] for source in sources]) != 2]
        for name in fresh:
            found[name] = rank
    return {name: found[name] for name in sorted(found)}


def best_wires(circuit, setting, gate):
    """Return the fewest wires that force a derived gate from lesser ranks, the least of several such tuples."""
    values = {**setting, **known(circuit, setting)}
    order = {**{name: 0 for name in circuit[0]}, **rank_dict(circuit, setting)}
    sources, table = {name: (sources, table) for name, sources, table in circuit[1]}[gate]
    enough = []
    for number in range(2 ** len(sources)):
        wires = tuple(k for k in range(len(sources)) if number >> k & 1)
        usable = all(values[sources[k]] != 2 and order[sources[k]] < order[gate] for k in wires)
        row = [values[source] if k in wires else 2 for k, source in enumerate(sources)]
        if usable and forced(table, row) == values[gate]:
            enough.append(wires)
    return min(enough, key=lambda wires: (len(wires), wires))


def steady(circuit, setting):
    """Return the list of all steady values, ascending."""
    names = [name for name, _, _ in circuit[1]]
    found = []
    for row in all_rows((0, 1, 2), len(names)):
        values = {**setting, **dict(zip(names, row))}
        if all(values[name] == forced(table, [values[s] for s in sources]) for name, sources, table in circuit[1]):
            found.append(dict(zip(names, row)))
    return found


def read_by(circuit):
    """Return a dict from each gate to the set of the gates that it reads, directly or not."""
    direct = {name: set(sources) for name, sources, _ in circuit[1]}
    reached = {}
    for name in direct:
        seen, waiting = set(), list(direct[name])
        while waiting:
            source = waiting.pop()
            if source in direct and source not in seen:
                seen.add(source)
                waiting.extend(direct[source])
        reached[name] = seen
    return reached


def part_list(circuit):
    """Return the parts in their order: of those that can come next, the one with the least first gate."""
    reached = read_by(circuit)
    parts = {tuple(sorted({g} | {h for h in reached if g in reached[h] and h in reached[g]})) for g in reached}
    ordered = []
    while parts:
        done = {gate for part in ordered for gate in part}
        part = min(part for part in parts if reached[part[0]] <= done | set(part))
        parts.remove(part)
        ordered.append(part)
    return tuple(ordered)
