"""Terms: places and ENDS, joined by the lesser and the greater."""

from heldranks.errors import InvalidCount, InvalidEnd, InvalidPlace, InvalidTerm, InvalidTerms, InvalidValues
from heldranks.values import BOTTOM, TOP, greatest, is_end, is_integer, is_value, least

REGISTERS = ("r0", "r1", "r2", "r3", "r4", "r5")
INPUTS = ("x0", "x1")


def places_of(registers, inputs):
    """Return the tuple of the places of a machine with so many registers and inputs, in order."""
    return REGISTERS[:registers] + INPUTS[:inputs]


def is_place(value):
    """Tell whether any value is the name of a place."""
    return isinstance(value, str) and (value in REGISTERS or value in INPUTS)


def check_given(values, places):
    """Raise InvalidValues unless values is a dict from places to VALUES that has at least these places."""
    if not isinstance(values, dict):
        raise InvalidValues(values)
    if not all([is_place(name) and is_value(values[name]) for name in values]):
        raise InvalidValues(values)
    if not all([name in values for name in places]):
        raise InvalidValues(values)


def _check_new_terms(terms):
    """Raise InvalidTerms unless terms is a dict from places to Terms."""
    if not isinstance(terms, dict):
        raise InvalidTerms(terms)
    if not all([is_place(name) and isinstance(terms[name], Term) for name in terms]):
        raise InvalidTerms(terms)


def _checked_parts(terms):
    """Return a tuple of Terms; raise InvalidTerm unless there are two or more and all are Terms."""
    if len(terms) < 2:
        raise InvalidTerm(None)
    _check_terms(terms)
    return terms


def _check_terms(terms):
    """Raise InvalidTerm for the first value that is no Term."""
    for term in terms:
        if not isinstance(term, Term):
            raise InvalidTerm(term)


def _depth_over(parts):
    """Return the depth of a lesser or a greater of these parts."""
    return 1 + max([part.depth for part in parts])


def _places_in(parts):
    """Return the sorted list of the places of all these parts."""
    return sorted(set([name for part in parts for name in part.places()]))


def _text_within(part):
    """Return the text that a part has within its term."""
    return f"({part})" if part.depth > 0 else str(part)


class Term:
    """What places, ends, lessers and greaters are; it is not created itself."""

    @property
    def depth(self):
        """Return how deep the term is."""
        return 0

    def at(self, values):
        """Return the value for a dict from places to VALUES."""
        check_given(values, self.places())
        return self.value_in(values)

    def value_in(self, values):
        """Return the value for a dict that surely is right; each kind of term has its own."""
        raise NotImplementedError("a Term is not created itself")

    def places(self):
        """Return the sorted list of the places."""
        return []

    def turned(self):
        """Return the turned Term."""
        return self

    def put(self, terms):
        """Return the Term in which places have become other Terms."""
        _check_new_terms(terms)
        return self.with_terms(terms)

    def with_terms(self, terms):
        """Return the Term for a dict that surely is right; each kind of term has its own."""
        raise NotImplementedError("a Term is not created itself")

    def __and__(self, other):
        return Lesser(self, other)

    def __or__(self, other):
        return Greater(self, other)

    def __str__(self):
        return "a term"

    def __repr__(self):
        return "Term()"

    def __eq__(self, other):
        return self is other


class Place(Term):
    """A register or an input."""

    def __init__(self, name):
        if not is_place(name):
            raise InvalidPlace(name)
        self._name = name

    @property
    def name(self):
        """Return the name of the place."""
        return self._name

    @property
    def depth(self):
        """Return 0."""
        return 0

    def at(self, values):
        """Return the value of the place in a dict from places to VALUES."""
        check_given(values, self.places())
        return self.value_in(values)

    def value_in(self, values):
        """Return the value of the place in a dict that surely has it."""
        return values[self._name]

    def places(self):
        """Return the list of this one place."""
        return [self._name]

    def turned(self):
        """Return the place: it is the same, turned."""
        return self

    def put(self, terms):
        """Return the Term that a dict has for the place, and the place if it has none."""
        _check_new_terms(terms)
        return self.with_terms(terms)

    def with_terms(self, terms):
        """Return what put() returns, for a dict that surely is right."""
        return terms.get(self._name, self)

    def __and__(self, other):
        return Lesser(self, other)

    def __or__(self, other):
        return Greater(self, other)

    def __str__(self):
        return str(self._name)

    def __repr__(self):
        return f"Place({self._name!r})"

    def __eq__(self, other):
        return isinstance(other, Place) and self._name == other._name


class End(Term):
    """BOTTOM or TOP."""

    def __init__(self, end):
        if not is_end(end):
            raise InvalidEnd(end)
        self._end = end

    @property
    def end(self):
        """Return the END."""
        return self._end

    @property
    def depth(self):
        """Return 0."""
        return 0

    def at(self, values):
        """Return the END, for a dict from places to VALUES."""
        check_given(values, self.places())
        return self.value_in(values)

    def value_in(self, values):
        """Return the END, for any dict."""
        return self._end

    def places(self):
        """Return the empty list."""
        return []

    def turned(self):
        """Return the other END as a Term."""
        return End(BOTTOM if self._end == TOP else TOP)

    def put(self, terms):
        """Return the END as a Term, for a dict from places to Terms."""
        _check_new_terms(terms)
        return self.with_terms(terms)

    def with_terms(self, terms):
        """Return the END as a Term, for any dict."""
        return self

    def __and__(self, other):
        return Lesser(self, other)

    def __or__(self, other):
        return Greater(self, other)

    def __str__(self):
        return str(self._end)

    def __repr__(self):
        return f"End({self._end!r})"

    def __eq__(self, other):
        return isinstance(other, End) and self._end == other._end


class Lesser(Term):
    """The least of two or more terms."""

    def __init__(self, *terms):
        self._parts = _checked_parts(terms)
        self._depth = _depth_over(terms)

    @property
    def parts(self):
        """Return the tuple of the parts."""
        return self._parts

    @property
    def depth(self):
        """Return 1 more than the greatest depth of the parts."""
        return self._depth

    def at(self, values):
        """Return the least value of the parts, for a dict from places to VALUES."""
        check_given(values, self.places())
        return self.value_in(values)

    def value_in(self, values):
        """Return the least value of the parts, for a dict that surely is right."""
        return least([part.value_in(values) for part in self._parts])

    def places(self):
        """Return the sorted list of the places of all parts."""
        return _places_in(self._parts)

    def turned(self):
        """Return the greater of the turned parts."""
        parts = [part.turned() for part in self._parts]
        return Greater(*parts)

    def put(self, terms):
        """Return the Term in which places have become the Terms that a dict has for them, all at once."""
        _check_new_terms(terms)
        return self.with_terms(terms)

    def with_terms(self, terms):
        """Return what put() returns, for a dict that surely is right."""
        parts = [part.with_terms(terms) for part in self._parts]
        return Lesser(*parts)

    def __and__(self, other):
        return Lesser(self, other)

    def __or__(self, other):
        return Greater(self, other)

    def __str__(self):
        return " & ".join([_text_within(part) for part in self._parts])

    def __repr__(self):
        inner = ", ".join([repr(part) for part in self._parts])
        return f"Lesser({inner})"

    def __eq__(self, other):
        return isinstance(other, Lesser) and self._parts == other._parts


class Greater(Term):
    """The greatest of two or more terms."""

    def __init__(self, *terms):
        self._parts = _checked_parts(terms)
        self._depth = _depth_over(terms)

    @property
    def parts(self):
        """Return the tuple of the parts."""
        return self._parts

    @property
    def depth(self):
        """Return 1 more than the greatest depth of the parts."""
        return self._depth

    def at(self, values):
        """Return the greatest value of the parts, for a dict from places to VALUES."""
        check_given(values, self.places())
        return self.value_in(values)

    def value_in(self, values):
        """Return the greatest value of the parts, for a dict that surely is right."""
        return greatest([part.value_in(values) for part in self._parts])

    def places(self):
        """Return the sorted list of the places of all parts."""
        return _places_in(self._parts)

    def turned(self):
        """Return the lesser of the turned parts."""
        parts = [part.turned() for part in self._parts]
        return Lesser(*parts)

    def put(self, terms):
        """Return the Term in which places have become the Terms that a dict has for them, all at once."""
        _check_new_terms(terms)
        return self.with_terms(terms)

    def with_terms(self, terms):
        """Return what put() returns, for a dict that surely is right."""
        parts = [part.with_terms(terms) for part in self._parts]
        return Greater(*parts)

    def __and__(self, other):
        return Lesser(self, other)

    def __or__(self, other):
        return Greater(self, other)

    def __str__(self):
        return " | ".join([_text_within(part) for part in self._parts])

    def __repr__(self):
        inner = ", ".join([repr(part) for part in self._parts])
        return f"Greater({inner})"

    def __eq__(self, other):
        return isinstance(other, Greater) and self._parts == other._parts


def kth(many, *terms):
    """Return a Term whose value is that of the many-th greatest one of some Terms."""
    if not is_integer(many) or not 1 <= many <= len(terms):
        raise InvalidCount(many)
    _check_terms(terms)
    return kth_greatest(many, list(terms))


def kth_greatest(many, terms):
    """Return what kth() returns, for a list that surely has Terms only, at least so many."""
    if len(terms) == 1:
        return terms[0]
    if many == 1:
        return Greater(*terms)
    if many == len(terms):
        return Lesser(*terms)
    # So many reach a level exactly if some reach it in the first half, and the others in the second half.
    half = len(terms) // 2
    fewest = max(0, many - (len(terms) - half))
    choices = [_both(taken, terms[:half], many - taken, terms[half:]) for taken in range(fewest, min(many, half) + 1)]
    return Greater(*choices)


def _both(many, terms, more, others):
    """Return the lesser of the many-th greatest one of some Terms and of the more-th one of some others."""
    if many == 0:
        return kth_greatest(more, others)
    if more == 0:
        return kth_greatest(many, terms)
    return Lesser(kth_greatest(many, terms), kth_greatest(more, others))
