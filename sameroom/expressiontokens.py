"""Expression texts are cut into tokens: numbers, words and signs."""

from sameroom.errors import BadText
from sameroom.expressions import DIGITS, LETTERS, LONGEST_NAME

LONG_SIGNS = ("!=", "<=", ">=")
SIGNS = ("!=", "<=", ">=", "<", ">", "=", "+", "-", "*", "(", ")", ",")
MOST_DIGITS = 3


def is_number(text, most_digits):
    """Whether a text is a run of digits, not too long and without a leading zero."""
    if not 1 <= len(text) <= most_digits:
        return False
    for sign in text:
        if sign not in DIGITS:
            return False
    return text == "0" or text[0] != "0"


def _run_end(text, at, signs):
    """The index behind the run of these signs that begins at an index."""
    end = at
    while end < len(text) and text[end] in signs:
        end = end + 1
    return end


def _token_end(text, at):
    if text[at] in DIGITS:
        return _run_end(text, at, DIGITS)
    if text[at] in LETTERS:
        return _run_end(text, at, LETTERS + DIGITS)
    if text[at:at + 2] in LONG_SIGNS:
        return at + 2
    return at + 1


def _is_token(text):
    if text[0] in DIGITS:
        return is_number(text, MOST_DIGITS)
    if text[0] in LETTERS:
        return len(text) <= LONGEST_NAME
    return text in SIGNS


def tokens_of(text):
    """The list of the pairs (index, token) of an expression text, or BadText where no right token begins."""
    tokens = []
    at = _run_end(text, 0, " ")
    while at < len(text):
        end = _token_end(text, at)
        if not _is_token(text[at:end]):
            raise BadText(at)
        tokens.append((at, text[at:end]))
        at = _run_end(text, end, " ")
    return tokens
