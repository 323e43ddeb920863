"""The text of a model: how it is written, and how it is read."""

from howmanyeach.checks import check_model
from howmanyeach.errors import InvalidText
from howmanyeach.manys import Many
from howmanyeach.models import Model, are_ends
from howmanyeach.values import is_name


def model_text(model):
    """Return the text of a model."""
    check_model(model)
    lines = [f"kind {kind}\n" for kind in model.kinds()]
    for link, (near, near_many, far, far_many) in model.links().items():
        lines.append(f"link {link} {near} {near_many!s} {far} {far_many!s}\n")
    return "".join(lines)


def read_model(text):
    """Return the Model that has this text."""
    if not isinstance(text, str):
        raise InvalidText(None)
    entries = [_entry_in(line) for line in _lines_of(text)]
    kinds = [entry[1] for entry in entries if entry is not None and entry[0] == "kind"]
    for at in range(len(entries)):
        if _is_wrong(entries, at, kinds):
            raise InvalidText(at + 1)
    if not kinds:
        raise InvalidText(1)
    if not text.endswith("\n"):
        raise InvalidText(len(entries))
    return Model(kinds, {name: ends for word, name, ends in entries if word == "link"})


def _lines_of(text):
    lines = text.split("\n")
    # What stands behind the last line feed is a line only if it is not empty.
    return lines if lines[-1] else lines[:-1]


def _entry_in(line):
    """Return a tuple (word, name, ends) that a line tells, None if it is no line of a text.

    The ends of a line with the word kind are None.
    """
    words = line.split(" ")
    if len(words) == 2 and words[0] == "kind" and is_name(words[1]):
        return ("kind", words[1], None)
    if len(words) == 6 and words[0] == "link" and is_name(words[1]):
        ends = (words[2], _many_in(words[3]), words[4], _many_in(words[5]))
        if are_ends(ends):
            return ("link", words[1], ends)
    return None


def _many_in(word):
    """Return the Many with this text, None if there is none."""
    try:
        return Many.read(word)
    except InvalidText:
        return None


def _is_wrong(entries, at, kinds):
    """Tell whether a line is wrong, all those ahead of it being right."""
    if entries[at] is None:
        return True
    word, name, ends = entries[at]
    ahead = entries[:at]
    if ahead and ahead[-1][0] == word and name <= ahead[-1][1]:
        return True
    kinds_ahead = [entry for entry in ahead if entry[0] == "kind"]
    if word == "kind":
        return len(kinds_ahead) < at or len(kinds_ahead) >= Model.MOST_KINDS
    return at - len(kinds_ahead) >= Model.MOST_LINKS or ends[0] not in kinds or ends[2] not in kinds
