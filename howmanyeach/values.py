"""What integers, counts, names and ends are."""

from howmanyeach.errors import InvalidEnd

MOST_LETTERS = 8
ENDS = ("near", "far")


def is_integer(value):
    """Tell whether any value is an INTEGER: an int that is not a bool."""
    return isinstance(value, int) and not isinstance(value, bool)


def is_count(value):
    """Tell whether any value is a COUNT: an INTEGER that is at least 0."""
    return is_integer(value) and value >= 0


def is_name(value):
    """Tell whether any value is a NAME: a string of one to eight letters from a to z."""
    if not isinstance(value, str) or not 1 <= len(value) <= MOST_LETTERS:
        return False
    return all(["a" <= letter <= "z" for letter in value])


def is_end(value):
    """Tell whether any value is one of the two ends of a link."""
    return isinstance(value, str) and value in ENDS


def other_end(end):
    """Return the end of a link that this one is not."""
    if not is_end(end):
        raise InvalidEnd(end)
    return "far" if end == "near" else "near"


def number_in(text):
    """Return the COUNT that a string is the text of, None if there is none."""
    # Other alphabets have digits, too, which int reads: hence no isdigit here.
    if not text or not all(["0" <= sign <= "9" for sign in text]):
        return None
    if text[0] == "0" and len(text) > 1:
        return None
    return int(text)
