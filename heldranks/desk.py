"""The desk: machines and histories by names, and commands that make them and ask about them."""

from heldranks.ages import greatest_age
from heldranks.charts import Chart
from heldranks.errors import InvalidCommand, NameTaken, NothingToUndo, UnknownName
from heldranks.forgetting import past_ticks
from heldranks.joined import after, beside, looped
from heldranks.machines import Machine
from heldranks.makers import best, line, pile, ranked, recent, record
from heldranks.needed import needed
from heldranks.pairs import are_alike, is_at_most
from heldranks.rows import most_needed
from heldranks.runs import outputs_of
from heldranks.values import integer_in, is_end, is_list, is_name, value_in_word

_DONE = "done"

# What stands behind the first word of a command; `make` and `tick` are looked at apart.
_FORMS = {
    "after": ("new", "machine", "machine"),
    "beside": ("new", "machine", "machine"),
    "looped": ("new", "machine", "number", "number", "end"),
    "history": ("new",),
    "drop": ("used",),
    "alike": ("machine", "machine"),
    "most": ("machine", "machine"),
    "run": ("machine", "history"),
    "needed": ("machine", "history"),
    "held": ("machine",),
    "age": ("machine",),
    "past": ("machine",)}

# How many numbers stand behind the words that tell what is made.
_MADE = {"line": 1, "pile": 1, "ranked": 1, "best": 1, "recent": 2, "record": 0}


class Desk:
    """Machines and histories by names, and the commands that were done."""

    def __init__(self):
        self._done = []
        # What the names stood for before each of these commands, and at last what they stand for now.
        self._stands = [{}]

    def do(self, command):
        """Do a command and return its answer."""
        return self.do_all([command])[0]

    def do_all(self, commands):
        """Do the commands of a list, or none if one raises an error, and return the list of their answers."""
        answers, stands = _answered(self._stands[-1], commands)
        self._done.extend([command for command, answer in zip(commands, answers) if answer == _DONE])
        self._stands.extend(stands)
        return answers

    def undo(self):
        """Take back the last command that answered that it is done."""
        if not self._done:
            raise NothingToUndo()
        del self._done[-1]
        del self._stands[-1]

    def log(self):
        """Return the list of the commands that answered that they are done and were not taken back."""
        return list(self._done)

    def tried(self, commands):
        """Return what do_all() would return, and leave the desk as it is."""
        answers, _ = _answered(self._stands[-1], commands)
        return answers

    def names(self):
        """Return the sorted list of the names."""
        return sorted(list(self._stands[-1]))


def _answered(stand, commands):
    """Return the answers to the commands of a list, and what the names stand for behind each one that is done."""
    if not is_list(commands):
        raise InvalidCommand(commands)
    answers, stands = [], []
    for command in commands:
        form, words = _read_command(command)
        _check_names(stand, form, words)
        changed = _changed(stand, words)
        if changed is None:
            answers.append(_told(stand, words))
        else:
            stand = changed
            stands.append(stand)
            answers.append(_DONE)
    return answers, stands


def _read_command(command):
    """Return the list of the kinds of the words of a command, and the list of what they stand for."""
    if not isinstance(command, str):
        raise InvalidCommand(command)
    words = command.split(" ")
    form = _form_of(words)
    if form is None or len(words) != len(form):
        raise InvalidCommand(command)
    found = [_read(kind, word) for kind, word in zip(form, words)]
    if None in found:
        raise InvalidCommand(command)
    return form, found


def _form_of(words):
    """Return the list of the kinds of the words that a command with these words has to have, or None."""
    if words[0] in _FORMS:
        return ["word"] + list(_FORMS[words[0]])
    if words[0] == "make" and len(words) > 2 and words[2] in _MADE:
        return ["word", "new", "word"] + ["number"] * _MADE[words[2]]
    if words[0] == "tick":
        return ["word", "history", "letter"] + ["value"] * (len(words) - 3)
    return None


def _read(kind, word):
    """Return what a word of this kind stands for, or None if it is none."""
    if kind == "number":
        return integer_in(word)
    if kind == "value":
        return value_in_word(word)
    if kind == "end":
        return word if is_end(word) else None
    # All other words are names, or look as names do.
    return word if is_name(word) else None


def _check_names(stand, form, words):
    """Raise NameTaken for a new name that is in use, and UnknownName for the first name of another kind."""
    for kind, name in zip(form, words):
        if kind == "new" and name in stand:
            raise NameTaken(name)
    for kind, name in zip(form, words):
        if kind in ("machine", "history", "used") and not _stands_for(stand, kind, name):
            raise UnknownName(name)


def _stands_for(stand, kind, name):
    """Tell whether a name stands for something of a kind."""
    if name not in stand:
        return False
    return kind == "used" or isinstance(stand[name], Machine) == (kind == "machine")


def _changed(stand, words):
    """Return what the names stand for behind a command, or None if it is a question."""
    word, name = words[:2]
    found = {known: stand[known] for known in stand}
    if word == "drop":
        del found[name]
    elif word == "history":
        found[name] = ()
    elif word == "tick":
        found[name] = (*stand[name], (words[2], tuple(words[3:])))
    elif word in ("make", "after", "beside", "looped"):
        found[name] = _made(stand, words)
    else:
        return None
    return found


def _made(stand, words):
    """Return the Machine that a command makes."""
    word, _, *rest = words
    if word == "make":
        return _made_by(rest[0], rest[1:])
    if word == "after":
        return after(stand[rest[0]], stand[rest[1]])
    if word == "beside":
        return beside(stand[rest[0]], stand[rest[1]])
    return looped(stand[rest[0]], rest[1], rest[2], rest[3])


def _made_by(word, numbers):
    """Return the Machine that is made by a word and numbers."""
    if word == "line":
        return line(*numbers)
    if word == "pile":
        return pile(*numbers)
    if word == "ranked":
        return ranked(*numbers)
    if word == "best":
        return best(*numbers)
    return recent(*numbers) if word == "recent" else record()


def _told(stand, words):
    """Return the answer to a question."""
    word, *names = words
    machine, *others = [stand[name] for name in names]
    if word == "alike":
        return _yes_or_no(are_alike(machine, others[0]))
    if word == "most":
        return _yes_or_no(is_at_most(machine, others[0]))
    if word == "run":
        outputs = outputs_of(machine, others[0])
        return _listed(outputs[-1] if outputs else ())
    if word == "needed":
        return _listed(needed(machine, others[0]))
    if word == "held":
        return str(most_needed(Chart.of_machine(machine)))
    if word == "age":
        age = greatest_age(machine)
        return "never" if age is None else str(age)
    return str(past_ticks(machine))


def _yes_or_no(is_so):
    """Return the answer to a question that asks whether something is so."""
    return "yes" if is_so else "no"


def _listed(values):
    """Return VALUES with spaces between them, or a dash if there is none."""
    return " ".join([str(value) for value in values]) if values else "-"
