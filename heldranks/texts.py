"""Texts of machines, and machines and terms that are read from texts."""

from heldranks.checks import check_machine
from heldranks.errors import HeldError, InvalidText, MissingError
from heldranks.machines import Machine, Row
from heldranks.terms import End, Greater, Lesser, Place, is_place
from heldranks.values import integer_in, is_count, is_end, is_name

_LESSER_SIGN = "&"
_SIGNS = ("&", "|")
_LEAST_LINES = 3


def machine_text(machine):
    """Return the text of a Machine."""
    check_machine(machine)
    lines = [
        f"inputs {machine.inputs} outputs {machine.outputs} first {machine.first}",
        " ".join(["begin", *machine.begin])]
    rows = machine.rows()
    for mode, letter in rows:
        row = rows[mode, letter]
        kept = f" keep {_texts_of(row.registers)}" if row.registers else ""
        lines.append(f"{mode} {letter} go {row.mode}{kept} tell {_texts_of(row.outputs)}")
    return "".join([line + "\n" for line in lines])


def read_machine(text):
    """Return the Machine with a text."""
    if not isinstance(text, str):
        raise InvalidText(None)
    *lines, rest = text.split("\n")
    parts = []
    for position, line in enumerate(lines):
        part = _part_at(position, line)
        if part is None:
            raise InvalidText(position + 1)
        parts.append(part)
    # A rest is a line without a line feed; otherwise this is the number of the line behind the last one.
    found = None if rest else _machine_of(parts)
    if found is None or machine_text(found) != text:
        raise InvalidText(len(lines) + 1)
    return found


def read_term(text):
    """Return the Term with a text."""
    if not isinstance(text, str):
        raise InvalidText(None)
    found = _term_in(text)
    if found is None:
        raise InvalidText(1)
    return found


def _texts_of(terms):
    """Return the texts of some Terms, as a line has them."""
    return ", ".join([str(term) for term in terms])


def _part_at(position, line):
    """Return what the line at a position says, or None if it does not have the form of a line there."""
    words = line.split(" ")
    if position == 0:
        return _head_in(words)
    return _begin_in(words) if position == 1 else _row_in(words)


def _head_in(words):
    """Return the tuple (inputs, outputs, first mode) that the words of a line tell, or None."""
    if len(words) != 6 or words[0::2] != ["inputs", "outputs", "first"]:
        return None
    inputs, outputs, first = integer_in(words[1]), integer_in(words[3]), words[5]
    return (inputs, outputs, first) if is_count(inputs) and is_count(outputs) and is_name(first) else None


def _begin_in(words):
    """Return the list of the ENDS that the words of a line tell, or None."""
    return words[1:] if words[0] == "begin" and all([is_end(word) for word in words[1:]]) else None


def _row_in(words):
    """Return the tuple ((mode, letter), Row) that the words of a line tell, or None."""
    if len(words) < 6 or words[2] != "go" or not all([is_name(words[k]) for k in (0, 1, 3)]):
        return None
    # The first words may be any names, so the words between the terms are looked for behind them.
    behind = words[4:]
    kept = []
    if behind[0] == "keep" and "tell" in behind:
        at = behind.index("tell")
        kept = _terms_in(behind[1:at])
        behind = behind[at:]
    told = _terms_in(behind[1:]) if behind[0] == "tell" else None
    if kept is None or told is None:
        return None
    return ((words[0], words[1]), Row(words[3], kept, told))


def _terms_in(words):
    """Return the list of the Terms whose texts stand in some words, separated as in a line, or None."""
    terms = [_term_in(text) for text in " ".join(words).split(", ")]
    return terms if all([term is not None for term in terms]) else None


def _machine_of(parts):
    """Return the Machine of what the lines of a text say, or None if there is none."""
    if len(parts) < _LEAST_LINES:
        return None
    (inputs, outputs, first), begin, *rows = parts
    by_pair = {pair: row for pair, row in rows}
    try:
        return Machine(by_pair, inputs=inputs, outputs=outputs, first=first, begin=begin)
    except (HeldError, MissingError):
        return None


def _term_in(text):
    """Return the Term with a text, or None if there is none."""
    words = text.split(" ")
    # For each open parenthesis, and for the whole text, the sign between the parts and the list of the parts.
    signs, parts = [""], [[]]
    for number, word in enumerate(words):
        if number & 1 == 1:
            if word not in _SIGNS or signs[-1] not in ("", word):
                return None
            signs[-1] = word
        elif not _is_operand_taken(word, signs, parts):
            return None
    if len(words) & 1 == 0 or len(parts) > 1:
        return None
    if signs[0] == "":
        # One part alone does not stand in parentheses.
        return parts[0][0] if parts[0][0].depth == 0 else None
    return _joined(signs[0], parts[0])


def _is_operand_taken(word, signs, parts):
    """Take a place or an END with the parentheses around it, and tell whether they are right here."""
    plain = word.lstrip("(").rstrip(")")
    if not is_place(plain) and not is_end(plain):
        return False
    for _ in range(len(word) - len(word.lstrip("("))):
        signs.append("")
        parts.append([])
    parts[-1].append(Place(plain) if is_place(plain) else End(plain))
    for _ in range(len(word) - len(word.rstrip(")"))):
        if len(parts) == 1 or signs[-1] == "":
            return False
        joined = _joined(signs.pop(), parts.pop())
        parts[-1].append(joined)
    return True


def _joined(sign, terms):
    """Return the lesser or the greater of two or more Terms, by the sign between them."""
    return Lesser(*terms) if sign == _LESSER_SIGN else Greater(*terms)
