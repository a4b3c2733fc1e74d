"""Forms: the least sets of places that make a term TOP, by which terms are compared."""

from heldranks.errors import InvalidForm, InvalidTerm
from heldranks.terms import End, Greater, Lesser, Place, Term, check_given, is_place
from heldranks.values import BOTTOM, TOP, greatest, is_list, least


def form_of(term):
    """Return the form of a Term: the list of its least sets of places, in order."""
    _check_term(term)
    places = term.places()
    table = _table_of(term, places)
    found = []
    for chosen in range(1 << len(places)):
        if _is_least(table, chosen, len(places)):
            found.append(tuple([name for k, name in enumerate(places) if _has(chosen, k)]))
    return sorted(found, key=_order_of)


def covers_of(term):
    """Return the form of the turned Term."""
    _check_term(term)
    return form_of(term.turned())


def term_of(form):
    """Return a Term with this form."""
    _check_form(form)
    return _built(form)


def value_by(form, values):
    """Return the value of a Term with this form, for a dict from places to VALUES."""
    _check_form(form)
    check_given(values, [name for chosen in form for name in chosen])
    return greatest([least([values[name] for name in chosen]) for chosen in form])


def is_same(one, other):
    """Tell whether two Terms have equal values for all values of their places."""
    places = _places_of_both(one, other)
    return _table_of(one, places) == _table_of(other, places)


def is_never_above(one, other):
    """Tell whether the first Term is never greater than the second one."""
    return showing(one, other) is None


def showing(one, other):
    """Return a dict from places to ENDS at which the first Term is TOP and the second one is not, or None."""
    places = _places_of_both(one, other)
    above = _table_of(one, places) & ~_table_of(other, places)
    if above == 0:
        return None
    chosen = (above & -above).bit_length() - 1
    return {name: TOP if _has(chosen, k) else BOTTOM for k, name in enumerate(places)}


def plain_term(term):
    """Return a short Term that has the same values as what surely is a Term."""
    return _built(form_of(term))


def _check_term(term):
    """Raise InvalidTerm for any value that is no Term."""
    if not isinstance(term, Term):
        raise InvalidTerm(term)


def _places_of_both(one, other):
    """Return the sorted list of the places of two Terms; InvalidTerm for a value that is none."""
    _check_term(one)
    _check_term(other)
    return sorted(set(one.places() + other.places()))


def _has(bits, k):
    """Tell whether a bit is set. Sets of places are written as bits, the first place as the lowest one."""
    return bits >> k & 1 == 1


def _table_of(term, places):
    """Return an integer whose bit for each set of these places tells whether the term is TOP for the set."""
    sets = 1 << len(places)
    tables = {name: sum([1 << chosen for chosen in range(sets) if _has(chosen, k)]) for k, name in enumerate(places)}
    return _table_by(term, tables, (1 << sets) - 1)


def _table_by(term, tables, whole):
    """Return the table of a term by the tables of its places and by that of TOP, which has all bits."""
    if isinstance(term, Place):
        return tables[term.name]
    if isinstance(term, End):
        return whole if term.end == TOP else 0
    if isinstance(term, Lesser):
        found = whole
        for part in term.parts:
            found = found & _table_by(part, tables, whole)
        return found
    found = 0
    for part in term.parts:
        found = found | _table_by(part, tables, whole)
    return found


def _is_least(table, chosen, many):
    """Tell whether a table has a set, and no set with one of its so many places less."""
    # A term never falls if a place rises, so smaller sets need not be looked at.
    if not _has(table, chosen):
        return False
    return not any([_has(chosen, k) and _has(table, chosen - (1 << k)) for k in range(many)])


def _order_of(chosen):
    """Return by what a set is ordered among the sets of a form."""
    return (len(chosen), chosen)


def _check_form(form):
    """Raise InvalidForm for any value that is not the form of a Term, with its sets in order."""
    if not is_list(form) or not all([_has_places(chosen) for chosen in form]):
        raise InvalidForm(form)
    # What the sets stand for has one form only, so sets that are not least or not in order differ from it.
    if form_of(_built(form)) != list(form):
        raise InvalidForm(form)


def _has_places(chosen):
    """Tell whether any value is a tuple of places."""
    return isinstance(chosen, tuple) and all([is_place(name) for name in chosen])


def _built(form):
    """Return the greater of the lessers of the places of each set."""
    return _joined([_lesser_of_places(chosen) for chosen in form])


def _joined(terms):
    """Return the greater of some Terms, also of one and of none."""
    if not terms:
        return End(BOTTOM)
    return terms[0] if len(terms) == 1 else Greater(*terms)


def _lesser_of_places(chosen):
    """Return the lesser of some places, also of one and of none."""
    if not chosen:
        return End(TOP)
    places = [Place(name) for name in chosen]
    return places[0] if len(places) == 1 else Lesser(*places)
