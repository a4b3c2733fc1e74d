"""What the tests search for by themselves: steps, least numbers of ticks, and machines that are made from others."""

import itertools

from heldranks.machines import Machine, Row
from heldranks.terms import End, Greater, Lesser, Place
from tests.helpers import BOTTOM, TOP, value_of

# The steps of end states that were worked out already, for each machine.
KNOWN = {}
NOT_MACHINES = [None, True, 0, "machine", [], (), {}, Machine]


def moves_of(machine):
    """Return all moves of a machine, a chart or a table, in order."""
    return [(letter, ends) for letter in sorted(machine.letters)
            for ends in itertools.product([BOTTOM, TOP], repeat=machine.inputs)]


def plain_step(rows, state, move):
    """Return the outputs and the next end state of any end state of a machine with these rows."""
    mode, registers = state
    given = {f"r{k}": end for k, end in enumerate(registers)}
    given.update({f"x{k}": end for k, end in enumerate(move[1])})
    row = rows[mode, move[0]]
    return (tuple(value_of(term, given) for term in row.outputs),
            (row.mode, tuple(value_of(term, given) for term in row.registers)))


def first_of(machine):
    return (machine.first, machine.begin)


def steps_from(machine, *states):
    """Return the steps of these end states and of all that they lead to: a dict of dicts by moves."""
    rows, moves = machine.rows(), moves_of(machine)
    known = KNOWN.setdefault(machine, {})
    found, waiting = {}, list(states)
    while waiting:
        state = waiting.pop()
        if state not in found:
            if state not in known:
                known[state] = {move: plain_step(rows, state, move) for move in moves}
            found[state] = known[state]
            waiting.extend(behind for _, behind in found[state].values())
    return found


def reached_steps(machine):
    return steps_from(machine, first_of(machine))


def all_end_states(machine):
    """Return all end states of a machine, reached or not."""
    return [(mode, ends) for mode in machine.modes
            for ends in itertools.product([BOTTOM, TOP], repeat=machine.registers)]


def steps_of(chart):
    """Return the steps of a chart or a table, as those of a machine."""
    if hasattr(chart, "step"):
        return {k: {move: chart.step(k, *move) for move in moves_of(chart)} for k in range(len(chart))}
    return {k: {move: (chart.told(k, *move), chart.next_class(k, *move)) for move in moves_of(chart)}
            for k in range(len(chart))}


def unlike(outputs, others):
    return outputs != others


def above(outputs, others):
    """Tell whether some output is TOP where the other one is BOTTOM."""
    return (TOP, BOTTOM) in list(zip(outputs, others))


def under(one, other):
    return not above(one, other)


def least_ticks(one, other, is_wrong):
    """Return for all pairs of nodes the least number of ticks at the last of which outputs are wrong, if there is one.

    Not by following pairs, but by rounds over all pairs: those that need one tick, then those that need two, and so on.
    """
    found, left = {}, {}
    for here in one:
        for there in other:
            both = [(one[here][move], other[there][move]) for move in one[here]]
            if any(is_wrong(step[0], told[0]) for step, told in both):
                found[here, there] = 1
            else:
                left[here, there] = {(step[1], told[1]) for step, told in both}
    ticks = 1
    while True:
        new = [pair for pair in left if any(found.get(behind) == ticks for behind in left[pair])]
        if not new:
            return found
        ticks += 1
        for pair in new:
            found[pair] = ticks
            del left[pair]


def classes_as_met(steps, first):
    """Return for each class, in the order in which they are met, a dict of the outputs and next classes by moves."""
    parted = least_ticks(steps, steps, unlike)
    firsts, found = [first], []
    for node in firsts:
        found.append({})
        for move in sorted(steps[node]):
            outputs, behind = steps[node][move]
            same = [k for k, other in enumerate(firsts) if (behind, other) not in parted]
            if not same:
                firsts.append(behind)
            found[-1][move] = (outputs, (same + [len(firsts) - 1])[0])
    return found


def followed(steps, node, history):
    """Return the outputs that follow a node with an end history, and the node behind."""
    outputs = []
    for move in history:
        told, node = steps[node][move]
        outputs.append(told)
    return outputs, node


def histories(machine, ticks):
    """Return all end histories with at most so many ticks."""
    found = [[]]
    for history in found:
        if len(history) == ticks:
            break
        found.extend([history + [move] for move in moves_of(machine)])
    return found


def closed(one, other, pairs):
    """Return a list of these pairs and all that moves lead to from them."""
    found, waiting = {}, list(pairs)
    while waiting:
        pair = waiting.pop()
        if pair not in found:
            found[pair] = True
            for move in one[pair[0]]:
                waiting.append((one[pair[0]][move][1], other[pair[1]][move][1]))
    return list(found)


def disguised(rng, machine):
    """Return a machine that is alike, with other modes, its registers in another sequence and one more."""
    many = machine.registers
    order = list(range(many))
    rng.shuffle(order)
    words = machine.modes
    rng.shuffle(words)
    names = {mode: f"other{k}" for k, mode in enumerate(words)}
    moved = {f"r{old}": Place(f"r{new + 1}") for new, old in enumerate(order)}
    rows = {}
    for (mode, letter), row in machine.rows().items():
        kept = [longer(rng, row.registers[old].put(moved)) for old in order]
        told = [longer(rng, term.put(moved)) for term in row.outputs]
        rows[names[mode], letter] = Row(names[row.mode], [Place("r0") | Place(f"r{many}")] + kept, told)
    # A second first mode, to which nothing leads back.
    for letter in machine.letters:
        rows["start", letter] = rows[names[machine.first], letter]
    begin = [rng.choice([BOTTOM, TOP])] + [machine.begin[old] for old in order]
    return Machine(rows, inputs=machine.inputs, outputs=machine.outputs, first="start", begin=begin)


def longer(rng, term):
    """Return another term with the same value."""
    return rng.choice([Lesser(term, term), Greater(term, End(BOTTOM)), Lesser(End(TOP), term, Greater(term, term))])


def with_row(machine, pair, row):
    """Return a machine with another row."""
    rows = machine.rows()
    rows[pair] = row
    return Machine(rows, inputs=machine.inputs, outputs=machine.outputs, first=machine.first, begin=machine.begin)


def with_last(machine):
    """Return a machine that is alike, with one more register that has the last value of the first input."""
    rows = {}
    for pair, row in machine.rows().items():
        last = Place("x0") if machine.inputs else End(TOP)
        rows[pair] = Row(row.mode, list(row.registers) + [last], row.outputs)
    begin = list(machine.begin) + [BOTTOM]
    return Machine(rows, inputs=machine.inputs, outputs=machine.outputs, first=machine.first, begin=begin)


def changed(rng, machine):
    """Return a machine in which one term or one next mode is another one."""
    pair = rng.choice(sorted(machine.rows()))
    row = machine.rows()[pair]
    places = [f"r{k}" for k in range(machine.registers)] + [f"x{k}" for k in range(machine.inputs)]
    term = Place(rng.choice(places)) if places and rng.random() < 0.8 else End(rng.choice([BOTTOM, TOP]))
    kept, told = list(row.registers), list(row.outputs)
    kind = rng.choice(["mode", "keep", "tell"])
    if kind == "mode":
        return with_row(machine, pair, Row(rng.choice(machine.modes), kept, told))
    terms = kept if kind == "keep" and kept else told
    terms[rng.randrange(len(terms))] = term
    return with_row(machine, pair, Row(row.mode, kept, told))


def lowered(rng, machine):
    """Return a machine that is at most this one: one output is the lesser of what it was and of another term."""
    pair = rng.choice(sorted(machine.rows()))
    row = machine.rows()[pair]
    told = list(row.outputs)
    other = Place("x0") if machine.inputs else End(BOTTOM)
    told[0] = told[0] & other
    return with_row(machine, pair, Row(row.mode, row.registers, told))
