"""Nodes: an end state beside the inputs and outputs of the tick before, so that movements can be told.

An EDGE of a node is a tuple (gain, next node); a GRAPH is a dict from nodes to the lists of their edges, one for each
move, in order.
"""

from heldranks.ends import check_states, first_end_state, is_end_state, moves
from heldranks.errors import TooMany
from heldranks.values import are_ends

_MOST_NODES = 96


def first_node(machine):
    """Return the node before the first tick."""
    return (first_end_state(machine), ())


def is_node(machine, value):
    """Tell whether any value is a node of a machine; its end state need not be reached."""
    if not isinstance(value, tuple) or len(value) != 2 or not is_end_state(machine, value[0]):
        return False
    last = value[1]
    if not isinstance(last, tuple) or len(last) not in (0, 2):
        return False
    return last == () or (are_ends(last[0], machine.inputs) and are_ends(last[1], machine.outputs))


def next_nodes(machine, node):
    """Return the list of the next nodes of a node, one for each move, in order."""
    state, _ = node
    both = list(zip(moves(machine), machine.end_steps(state)))
    return [(behind, (ends, outputs)) for (_, ends), (outputs, behind) in both]


def reached_nodes(machine):
    """Return the list of the nodes that end histories lead to; TooMany for too many end states, then for these."""
    check_states(machine)
    found = [first_node(machine)]
    met = {found[0]: True}
    at = 0
    while at < len(found):
        ahead = next_nodes(machine, found[at])
        for node in ahead:
            if node not in met:
                met[node] = True
                found.append(node)
        at += 1
    if len(found) > _MOST_NODES:
        raise TooMany("nodes", _MOST_NODES)
    return found


def node_behind(machine, history):
    """Return the node to which an end history leads."""
    ordered = moves(machine)
    node = first_node(machine)
    for tick in history:
        node = next_nodes(machine, node)[ordered.index(tick)]
    return node


def graph_by(machine, nodes, gain):
    """Return the graph of some nodes, by a function from the letter, the tick before and this one to the gain.

    Ticks are given to that function as the second parts of nodes.
    """
    letters = [letter for letter, _ in moves(machine)]
    return {node: _edges_by(letters, next_nodes(machine, node), node[1], gain) for node in nodes}


def _edges_by(letters, ahead, before, gain):
    """Return the list of the edges to the next nodes, for the tick before them all."""
    return [(gain(letter, before, behind[1]), behind) for letter, behind in zip(letters, ahead)]
