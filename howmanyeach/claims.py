"""Claims on models and Tolds, and the certificates of those that are true."""

from howmanyeach.bounding import is_let, is_raise_paper, least_sizes, raise_paper, totals_of
from howmanyeach.completing import (can_complete, completion_with, is_completion, is_obstacle, least_from, no_wishes,
                                    obstacle_of)
from howmanyeach.errors import InvalidClaim
from howmanyeach.models import Model, have_same_shape
from howmanyeach.parting import can_have_row, parting_of
from howmanyeach.rings import empty_kinds, empty_paper, is_empty_paper, is_full
from howmanyeach.sizes import are_sizes_of, sizes_for
from howmanyeach.told import Told
from howmanyeach.values import is_count, is_end, is_integer

KINDS = ("full", "empty", "let", "at least", "parted", "completes", "lacking")


def is_claim(value):
    """Tell whether any value is a claim."""
    if not isinstance(value, tuple) or not value or not isinstance(value[0], str) or value[0] not in KINDS:
        return False
    check = FORMS[value[0]]
    return check(value)


def certificate_of(claim):
    """Return a certificate of a claim, None if the claim is not true."""
    _check_claim(claim)
    certify = CERTIFIERS[claim[0]]
    return certify(claim)


def is_certificate(claim, value):
    """Tell whether any value is a certificate of a claim."""
    _check_claim(claim)
    judge = JUDGES[claim[0]]
    return judge(claim, value)


def _check_claim(value):
    if not is_claim(value):
        raise InvalidClaim(value)


def _is_of_kind(value):
    return len(value) == 3 and isinstance(value[1], Model) and value[2] in value[1]


def _is_of_sizes(value):
    return len(value) == 3 and isinstance(value[1], Model) and are_sizes_of(value[1], value[2])


def _is_of_least(value):
    if len(value) != 5 or not _is_of_sizes(value[:3]):
        return False
    model, sizes, kind, number = value[1:]
    told = sizes_for(model, sizes)
    return kind in model and is_count(number) and not any([told[empty] for empty in empty_kinds(model)])


def _is_of_two(value):
    if len(value) != 3 or not isinstance(value[1], Model) or not isinstance(value[2], Model):
        return False
    return have_same_shape(value[1], value[2])


def _is_of_told(value):
    return len(value) == 2 and isinstance(value[1], Told)


def _certify_full(claim):
    model, kind = claim[1:]
    if not is_full(model, kind):
        return None
    return least_sizes(model, {other: int(other == kind) for other in model.kinds()})


def _certify_empty(claim):
    model, kind = claim[1:]
    return empty_paper(model, kind)


def _certify_let(claim):
    model, sizes = claim[1:]
    if not is_let(model, sizes):
        return None
    told = totals_of(model, sizes)
    return {link: told[link][0] for link in told}


def _certify_least(claim):
    model, sizes, kind, number = claim[1:]
    return raise_paper(model, sizes, kind, number)


def _certify_parted(claim):
    one, other = claim[1:]
    parting = parting_of(one, other)
    if parting is not None:
        return (0,) + parting
    parting = parting_of(other, one)
    return None if parting is None else (1,) + parting


def _certify_completes(claim):
    told = claim[1]
    if not can_complete(told):
        return None
    return completion_with(told, least_from(told, no_wishes(told)))


def _certify_lacking(claim):
    return obstacle_of(claim[1])


def _judge_full(claim, value):
    model, kind = claim[1:]
    return are_sizes_of(model, value) and value[kind] > 0 and is_let(model, value)


def _judge_empty(claim, value):
    model, kind = claim[1:]
    return is_empty_paper(model, kind, value)


def _judge_let(claim, value):
    model, sizes = claim[1:]
    if not isinstance(value, dict) or not is_let(model, sizes):
        return False
    told = totals_of(model, sizes)
    if len(value) != len(told) or not all([link in value for link in told]):
        return False
    return all([is_count(value[link]) and told[link][0] <= value[link] <= told[link][1] for link in told])


def _judge_least(claim, value):
    model, sizes, kind, number = claim[1:]
    return is_raise_paper(model, sizes, kind, number, value)


def _judge_parted(claim, value):
    if not isinstance(value, tuple) or len(value) != 5 or not is_integer(value[0]) or value[0] not in (0, 1):
        return False
    side, link, end, number, sizes = value
    model, other = claim[1 + side], claim[2 - side]
    if not model.has_link(link) or not is_end(end) or not is_count(number) or not are_sizes_of(model, sizes):
        return False
    return number not in other.many_at(link, end) and can_have_row(model, sizes, link, end, number)


def _judge_completes(claim, value):
    return is_completion(claim[1], value)


def _judge_lacking(claim, value):
    return is_obstacle(claim[1], value)


FORMS = {"full": _is_of_kind, "empty": _is_of_kind, "let": _is_of_sizes, "at least": _is_of_least,
         "parted": _is_of_two, "completes": _is_of_told, "lacking": _is_of_told}
CERTIFIERS = {"full": _certify_full, "empty": _certify_empty, "let": _certify_let, "at least": _certify_least,
              "parted": _certify_parted, "completes": _certify_completes, "lacking": _certify_lacking}
JUDGES = {"full": _judge_full, "empty": _judge_empty, "let": _judge_let, "at least": _judge_least,
          "parted": _judge_parted, "completes": _judge_completes, "lacking": _judge_lacking}
