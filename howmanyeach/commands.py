"""The commands of a desk: their forms, the names in them, and what they do."""

from howmanyeach.bounding import least_sizes
from howmanyeach.completing import can_complete, lacks_of
from howmanyeach.errors import InvalidCommand, Taken, UnknownKind, UnknownThing
from howmanyeach.models import Model
from howmanyeach.normal import are_alike, are_comparable
from howmanyeach.numbers import is_size
from howmanyeach.rings import empty_kinds, ratio_of
from howmanyeach.texts import read_model
from howmanyeach.told import Told
from howmanyeach.values import is_name, number_in

# For each first word what comes behind it; a text and counts can have several words.
FORMS = {"model": ("new", "text"), "told": ("new", "model"), "row": ("told", "name", "name"),
         "pair": ("told", "name", "name", "name"), "drop": ("thing",), "undo": (), "empty": ("model",),
         "ratio": ("model", "name", "name"), "least": ("model", "counts"), "alike": ("model", "model"),
         "sizes": ("model", "name", "number"), "lacks": ("told",)}


def parts_of(command):
    """Return the list of the parts of a command, as they stand in FORMS."""
    parts = _parts_or_none(command)
    if parts is None:
        raise InvalidCommand(command)
    return parts


def check_names(things, parts):
    """Raise Taken or UnknownThing for the first part that is not the name that is needed there."""
    forms = FORMS[parts[0]]
    for form, part in zip(forms, parts[1:]):
        if form == "new" and part in things:
            raise Taken(part)
    for form, part in zip(forms, parts[1:]):
        if form in ("model", "told", "thing") and not is_thing(things, form, part):
            raise UnknownThing(part)


def is_thing(things, form, value):
    """Tell whether any value is the name of a model, of a Told, or of any thing."""
    if not is_name(value) or value not in things:
        return False
    if form == "model":
        return isinstance(things[value], Model)
    return form == "thing" or isinstance(things[value], Told)


def changed_by(things, parts):
    """Return the things behind a command that changes them, None if it is none of these."""
    if parts[0] not in CHANGES:
        return None
    change = CHANGES[parts[0]]
    return change(things, parts)


def answer_to(things, parts):
    """Return the answer to a command that asks."""
    ask = QUESTIONS[parts[0]]
    return " ".join(ask(things, parts)) or "-"


def _parts_or_none(command):
    """Return the list of the parts of any value, None if it is no command."""
    if not isinstance(command, str) or "\n" in command:
        return None
    parts = command.split(" ")
    if parts[0] not in FORMS:
        return None
    forms = FORMS[parts[0]]
    if "text" in forms or "counts" in forms:
        parts = parts[:len(forms)] + [" ".join(parts[len(forms):])]
    if len(parts) != len(forms) + 1:
        return None
    if not all([_is_of(form, part) for form, part in zip(forms, parts[1:])]):
        return None
    return parts


def _is_of(form, part):
    """Tell whether a part has its form, whatever is on the desk."""
    if form == "text":
        return len(part) > 0
    if form == "counts":
        return _counts_in(part) is not None
    if form == "number":
        return number_in(part) is not None
    return is_name(part)


def _counts_in(part):
    """Return the dict that words KIND=NUMBER tell, None if they tell none."""
    counts = {}
    for word in part.split(" "):
        kind, _, text = word.partition("=")
        number = number_in(text)
        if not is_name(kind) or number is None or kind in counts:
            return None
        counts[kind] = number
    return counts


def _add_model(things, parts):
    # The last line feed is left out in a command.
    text = parts[2].replace(" | ", "\n")
    return {**things, parts[1]: read_model(f"{text}\n")}


def _add_told(things, parts):
    return {**things, parts[1]: Told(things[parts[2]])}


def _add_row(things, parts):
    told = things[parts[1]].copy()
    told.add_row((parts[2], parts[3]))
    return {**things, parts[1]: told}


def _add_pair(things, parts):
    told = things[parts[1]].copy()
    told.set_pairs(parts[2], told[parts[2]] + [(parts[3], parts[4])])
    return {**things, parts[1]: told}


def _drop(things, parts):
    return {name: things[name] for name in things if name != parts[1]}


def _tell_empty(things, parts):
    return empty_kinds(things[parts[1]])


def _tell_ratio(things, parts):
    span = ratio_of(things[parts[1]], parts[2], parts[3])
    ahead = "" if span.is_had else ">"
    high = "*" if span.high is None else str(span.high)
    return [f"{ahead}{span.low!s}", high]


def _tell_least(things, parts):
    model = things[parts[1]]
    counts = _counts_in(parts[2])
    for kind in counts:
        if kind not in model:
            raise UnknownKind(kind)
    least = least_sizes(model, {kind: counts.get(kind, 0) for kind in model.kinds()})
    return [f"{kind}={least[kind]}" for kind in least.kinds()]


def _tell_alike(things, parts):
    one, other = things[parts[1]], things[parts[2]]
    if not are_comparable(one, other):
        return ["other"]
    return ["yes" if are_alike(one, other) else "no"]


def _tell_sizes(things, parts):
    number = number_in(parts[3])
    return ["yes" if is_size(things[parts[1]], parts[2], number) else "no"]


def _tell_lacks(things, parts):
    told = things[parts[1]]
    if not can_complete(told):
        return ["none"]
    lacks = lacks_of(told)
    return [f"{kind}={lacks[kind]}" for kind in lacks if lacks[kind]]


CHANGES = {"model": _add_model, "told": _add_told, "row": _add_row, "pair": _add_pair, "drop": _drop}
QUESTIONS = {"empty": _tell_empty, "ratio": _tell_ratio, "least": _tell_least, "alike": _tell_alike,
             "sizes": _tell_sizes, "lacks": _tell_lacks}
