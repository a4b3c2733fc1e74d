"""The judge: claims, their certificates, and whether something is one."""

from heldranks.ages import age_in, age_of, age_paper, check_input, endless_age, is_age_paper, is_endless_age
from heldranks.ages import MOST_AGE, late_age_history
from heldranks.back import falling, is_rising_paper, rising_paper
from heldranks.checks import are_ticks, check_history, check_machine, check_number
from heldranks.ends import check_states, first_end_state, last_outputs
from heldranks.errors import HeldError, InvalidClaim, InvalidCount, InvalidInteger, MissingError
from heldranks.needed import call, is_rest_paper, rest_paper
from heldranks.nodes import reached_nodes
from heldranks.pairs import alike_paper, at_most_paper, check_shapes, excess, is_alike_paper, is_at_most_paper, parting
from heldranks.prices import check_fitting, end_worth
from heldranks.runs import outputs_of
from heldranks.tables import check_table
from heldranks.values import NO_BOUND, are_under, is_count, is_end, is_integer
from heldranks.worth import endless_worth, greatest_worth, is_worth_paper, round_worth, worth_history, worth_paper

KINDS = (
    "alike", "unlike", "at most", "above", "needed", "not needed", "rising", "not rising", "age at most",
    "age at least", "age no bound", "worth at most", "worth at least", "worth no bound")

# How many parts stand behind the first word of a claim.
_MANY_PARTS = {
    "alike": 2, "unlike": 2, "at most": 2, "above": 2, "needed": 3, "not needed": 3, "rising": 1, "not rising": 1,
    "age at most": 4, "age at least": 4, "age no bound": 3, "worth at most": 3, "worth at least": 3,
    "worth no bound": 2}


def is_claim(value):
    """Tell whether any value is a claim."""
    if not isinstance(value, tuple) or not value or value[0] not in KINDS:
        return False
    if len(value) != 1 + _MANY_PARTS[value[0]]:
        return False
    try:
        _check_parts(value[0], value[1:])
    except (HeldError, MissingError):
        return False
    return True


def is_certificate(claim, value):
    """Tell whether any value is a certificate of a claim."""
    _check_claim(claim)
    kind, *parts = claim
    if kind in ("alike", "unlike", "at most", "above"):
        one, other = parts
        return _shows_of_pair(kind, one, other, value)
    if kind in ("needed", "not needed"):
        machine, history, number = parts
        return _shows_of_value(kind, machine, history, number, value)
    if kind == "rising":
        return is_rising_paper(parts[0], value)
    if kind == "not rising":
        return _is_falling(parts[0], value)
    if kind in ("age at most", "age at least", "age no bound"):
        return _shows_of_age(kind, parts, value)
    return _shows_of_worth(kind, parts, value)


def certificate_of(claim):
    """Return a certificate of a claim, or None if the claim is not true."""
    _check_claim(claim)
    kind, *parts = claim
    if kind in ("alike", "unlike", "at most", "above"):
        one, other = parts
        return _made_of_pair(kind, one, other)
    if kind == "needed":
        return call(*parts)
    if kind == "not needed":
        return rest_paper(*parts)
    if kind == "rising":
        return rising_paper(*parts)
    if kind == "not rising":
        return falling(*parts)
    if kind in ("age at most", "age at least", "age no bound"):
        return _made_of_age(kind, parts)
    return _made_of_worth(kind, parts)


def _check_claim(claim):
    """Raise InvalidClaim for any value that is no claim."""
    if not is_claim(claim):
        raise InvalidClaim(claim)


def _check_parts(kind, parts):
    """Raise some error of the parts of a claim unless they are right."""
    if kind in ("alike", "unlike", "at most", "above"):
        check_shapes(*parts)
        check_states(parts[0])
        check_states(parts[1])
    elif kind in ("needed", "not needed"):
        check_machine(parts[0])
        check_history(parts[0], parts[1])
        check_states(parts[0])
        if not is_integer(parts[2]):
            raise InvalidInteger(parts[2])
    elif kind in ("rising", "not rising"):
        check_table(parts[0])
    elif kind in ("age at most", "age at least", "age no bound"):
        check_input(parts[0], parts[1], parts[2])
        check_states(parts[0])
    else:
        check_fitting(parts[0], parts[1])
        reached_nodes(parts[0])
    if kind == "age at least":
        check_number(parts[3], MOST_AGE + 1)
    if kind in ("age at most", "worth at most", "worth at least"):
        _check_bound(kind, parts[-1])


def _check_bound(kind, bound):
    """Raise InvalidCount unless a bound is a COUNT, or None where that is a bound of an age."""
    if not is_count(bound) and (kind != "age at most" or bound is not None):
        raise InvalidCount(bound)


def _made_of_pair(kind, one, other):
    """Return a certificate of a claim of two machines, or None."""
    if kind == "alike":
        return alike_paper(one, other)
    if kind == "unlike":
        return parting(one, other)
    return at_most_paper(one, other) if kind == "at most" else excess(one, other)


def _shows_of_pair(kind, one, other, value):
    """Tell whether any value is a certificate of a claim of two machines."""
    if kind == "alike":
        return is_alike_paper(one, other, value)
    if kind == "at most":
        return is_at_most_paper(one, other, value)
    if not are_ticks(one, value, is_end) or not value:
        return False
    here = last_outputs(one, first_end_state(one), value)
    there = last_outputs(other, first_end_state(other), value)
    return here != there if kind == "unlike" else not are_under(here, there)


def _shows_of_value(kind, machine, history, number, value):
    """Tell whether any value is a certificate of a claim of an INTEGER that is needed, or that is not."""
    if kind == "not needed":
        return is_rest_paper(machine, history, number, value)
    if not are_ticks(machine, value, is_end) or not value:
        return False
    return number in outputs_of(machine, [*history, *value])[-1]


def _is_falling(table, value):
    """Tell whether any value is a tuple of two end histories at which a table is falling."""
    if not isinstance(value, tuple) or len(value) != 2:
        return False
    low, high = value
    if not are_ticks(table, low, is_end) or not are_ticks(table, high, is_end):
        return False
    if not low or len(low) != len(high):
        return False
    if not all([tick[0] == over[0] and are_under(tick[1], over[1]) for tick, over in zip(low, high)]):
        return False
    return not are_under(table.outputs_of(low)[-1], table.outputs_of(high)[-1])


def _made_of_age(kind, parts):
    """Return a certificate of a claim of an age, or None."""
    machine, letter, number, *bounds = parts
    if kind == "age no bound":
        return endless_age(machine, letter, number)
    if kind == "age at least":
        return late_age_history(machine, letter, number, bounds[0])
    age = age_of(machine, letter, number)
    if age is not None and (age == NO_BOUND or bounds[0] is None or age > bounds[0]):
        return None
    return age_paper(machine, letter, number)


def _shows_of_age(kind, parts, value):
    """Tell whether any value is a certificate of a claim of an age."""
    machine, letter, number, *bounds = parts
    if kind == "age no bound":
        return is_endless_age(machine, letter, number, value)
    if kind == "age at most":
        return is_age_paper(machine, letter, number, bounds[0], value)
    age = age_in(machine, letter, number, value)
    return age is not None and age >= bounds[0]


def _made_of_worth(kind, parts):
    """Return a certificate of a claim of a worth, or None."""
    machine, prices, *bounds = parts
    most = greatest_worth(machine, prices)
    if most == NO_BOUND:
        return None if kind == "worth at most" else endless_worth(machine, prices)
    if kind == "worth at most":
        return worth_paper(machine, prices) if most <= bounds[0] else None
    if kind == "worth at least":
        return worth_history(machine, prices) if most >= bounds[0] else None
    return None


def _shows_of_worth(kind, parts, value):
    """Tell whether any value is a certificate of a claim of a worth."""
    machine, prices, *bounds = parts
    if kind == "worth at most":
        return is_worth_paper(machine, prices, bounds[0], value)
    if kind == "worth at least" and are_ticks(machine, value, is_end):
        return end_worth(machine, prices, value) >= bounds[0]
    found = round_worth(machine, prices, value)
    return found is not None and found[0] > 0
