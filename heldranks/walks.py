"""Walks: what is met side by side by moves, and which nodes are of one class.

NODES are end states of machines, classes of charts or states of tables. STEPS give for each node the list of its tuples
(outputs, next node), one for each move, in order; they are a dict by nodes, or a list where nodes are numbers. A DOUBLE
is a tuple of the numbers of two moves, that are done side by side from the two nodes of a pair.
"""


def are_equal(one, other):
    """Tell whether outputs are right where they have to be equal."""
    return one == other


def is_any(one, other):
    """Tell that outputs are right where they may be any."""
    return True


def same_doubles(many):
    """Return the list of the doubles with the same move on both sides, for so many moves."""
    return [(number, number) for number in range(many)]


def walked(starts, doubles, one, other, is_right):
    """Return how pairs are met from some pairs on, and what is the first wrong thing that is met.

    The first part is a dict from pairs, as they are met, to None for those that are started with, and to tuples
    (pair before, double) for the others. The second part is a tuple (pair, double) whose outputs are not right, of the
    least number of ticks, or None; behind it, nothing more is met.
    """
    came = {pair: None for pair in starts}
    waiting = list(came)
    at = 0
    while at < len(waiting):
        pair = waiting[at]
        here, there = one[pair[0]], other[pair[1]]
        for double in doubles:
            outputs, ahead = here[double[0]]
            others, across = there[double[1]]
            if not is_right(outputs, others):
                return came, (pair, double)
            if (ahead, across) not in came:
                came[ahead, across] = (pair, double)
                waiting.append((ahead, across))
        at += 1
    return came, None


def way_to(came, pair):
    """Return the pair that was started with, and the list of the doubles that lead from there to a pair."""
    way = []
    while came[pair] is not None:
        pair, double = came[pair]
        way.append(double)
    return pair, way[::-1]


def first_wrong(starts, doubles, one, other, is_right):
    """Return one of some pairs and a least list of doubles, at the last of which outputs are not right, or None."""
    came, wrong = walked(starts, doubles, one, other, is_right)
    if wrong is None:
        return None
    pair, double = wrong
    start, way = way_to(came, pair)
    return start, way + [double]


def first_parted(starts, ordered, one, other, is_right):
    """Return what first_wrong() returns for the same moves on both sides, with an end history for the doubles."""
    found = first_wrong(starts, same_doubles(len(ordered)), one, other, is_right)
    if found is None:
        return None
    start, way = found
    return start, [ordered[number] for number, _ in way]


def all_pairs(start, doubles, one, other, is_right):
    """Return the list of all pairs that are met from a pair on, or None if outputs are not right somewhere."""
    came, wrong = walked([start], doubles, one, other, is_right)
    return list(came) if wrong is None else None


def steps_met(starts, steps_at):
    """Return a dict from some nodes, and all that they lead to, to the list of their steps, which a function tells."""
    found = {}
    waiting = list(starts)
    at = 0
    while at < len(waiting):
        node = waiting[at]
        if node not in found:
            found[node] = steps_at(node)
            waiting.extend([behind for _, behind in found[node]])
        at += 1
    return found


def is_closed(pairs, doubles, one, other, is_right):
    """Tell whether outputs are right for all pairs and doubles, and the next pairs are in the list, too."""
    known = {pair: True for pair in pairs}
    for pair in known:
        here, there = one[pair[0]], other[pair[1]]
        for double in doubles:
            outputs, ahead = here[double[0]]
            others, across = there[double[1]]
            if not is_right(outputs, others) or (ahead, across) not in known:
                return False
    return True


def histories_to(steps, first, ordered):
    """Return a dict from all nodes that a node leads to, itself included, to end histories that lead there."""
    found = {first: []}
    waiting = [first]
    at = 0
    while at < len(waiting):
        node = waiting[at]
        for move, (_, behind) in zip(ordered, steps[node]):
            if behind not in found:
                found[behind] = found[node] + [move]
                waiting.append(behind)
        at += 1
    return found


def merged_steps(steps, first):
    """Return the list of the steps of the classes that a node leads to, and a dict from nodes to these classes.

    Steps are a dict here. The classes are numbered as they are met, 0 being the class of that node.
    """
    classes = _classes(steps)
    numbers = {classes[first]: 0}
    firsts = [first]
    found = []
    while len(found) < len(firsts):
        node = firsts[len(found)]
        row = []
        for outputs, behind in steps[node]:
            if classes[behind] not in numbers:
                numbers[classes[behind]] = len(firsts)
                firsts.append(behind)
            row.append((outputs, numbers[classes[behind]]))
        found.append(row)
    return found, {known: numbers[classes[known]] for known in steps if classes[known] in numbers}


def _classes(steps):
    """Return a dict from the nodes of a dict of steps to numbers that are equal exactly for nodes of one class."""
    found = _numbered({node: tuple([outputs for outputs, _ in steps[node]]) for node in steps})
    many = 0
    # Nodes of one number are told apart by the numbers of their next nodes, until no more of them are.
    while many < _numbers_in(found):
        many = _numbers_in(found)
        marks = {node: (found[node], tuple([found[behind] for _, behind in steps[node]])) for node in steps}
        found = _numbered(marks)
    return found


def _numbered(marks):
    """Return a dict with a number in the place of each mark, equal ones for equal marks."""
    known = {}
    for node in marks:
        if marks[node] not in known:
            known[marks[node]] = len(known)
    return {node: known[marks[node]] for node in marks}


def _numbers_in(numbers):
    """Return how many different numbers a dict has."""
    return len(set(list(numbers.values())))
