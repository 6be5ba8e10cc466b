"""Expressions are written as texts, and read from texts."""

from sameroom.errors import BadText
from sameroom.expressions import OWN_NAMES, folded, is_name
from sameroom.expressiontokens import MOST_DIGITS, is_number, tokens_of

LEVELS = {
    "or": 1, "and": 2, "not": 3,
    "=": 4, "!=": 4, "<": 4, "<=": 4, ">": 4, ">=": 4,
    "+": 5, "-": 5, "*": 6, "div": 6, "mod": 6,
}
NOT_LEVEL = 3
COMPARISON_LEVEL = 4
ATOM_LEVEL = 7
MOST_ARGUMENTS = 3


def _in_brackets(text, needed):
    return f"({text})" if needed else text


def _written_pair(op, left, right):
    level = LEVELS[op]
    left_text, left_level = left
    right_text, right_level = right
    both_compare = left_level == COMPARISON_LEVEL and level == COMPARISON_LEVEL
    left_text = _in_brackets(left_text, left_level < level or both_compare)
    right_text = _in_brackets(right_text, right_level <= level)
    return (f"{left_text} {op} {right_text}", level)


def _written(part, parts):
    """The written form of an expression and its level, from those of its parts."""
    if isinstance(part, (int, str)):
        return (str(part), ATOM_LEVEL)
    if part[0] == "call":
        inner = ", ".join([argument[0] for argument in parts])
        return (f"{part[1]}({inner})", ATOM_LEVEL)
    if part[0] == "not":
        text, level = parts[0]
        inner = _in_brackets(text, level < NOT_LEVEL)
        return (f"not {inner}", NOT_LEVEL)
    return _written_pair(part[0], parts[0], parts[1])


def write_expression(expression):
    """The written form of an expression."""
    return folded(expression, _written)[0]


class Bracket:
    """What has been read so far within one pair of brackets, or within none."""

    def __init__(self, caller):
        # The name that the brackets call, or None where they only hold an expression together.
        self.caller = caller
        self.arguments = []
        self.operators = []
        self.operands = []

    def test_may_begin(self):
        """Whether `not` may stand where an operand is awaited."""
        return not self.operators or LEVELS[self.operators[-1]] <= NOT_LEVEL

    def compares(self):
        """Whether a comparison is open; an `and` or an `or` behind it closes it."""
        return COMPARISON_LEVEL in [LEVELS[op] for op in self.operators]

    def fold(self, level):
        """Joins operands, as long as the last operator holds them as firmly as one of this level."""
        while self.operators and LEVELS[self.operators[-1]] >= level:
            op = self.operators.pop()
            right = self.operands.pop()
            if op == "not":
                self.operands.append(("not", right))
            else:
                self.operands.append((op, self.operands.pop(), right))

    def end_argument(self):
        """What has been read becomes an argument of the call, and another argument follows."""
        self.fold(0)
        self.arguments.append(self.operands.pop())

    def whole(self):
        """The expression that the brackets hold, or the call that they end."""
        self.fold(0)
        if self.caller is None:
            return self.operands[0]
        return ("call", self.caller, (*self.arguments, *self.operands))


class Reader:
    """Reads the tokens of an expression text one after the other; BadText at the first that cannot follow."""

    def __init__(self, text):
        # The empty token marks the end: it can follow only where a right text may end.
        self.tokens = [*tokens_of(text), (len(text), "")]
        self.at = 0
        self.brackets = [Bracket(None)]

    def token(self):
        return self.tokens[self.at][1]

    def next_token(self):
        """The token behind this one, which is not the end."""
        return self.tokens[self.at + 1][1]

    def refuse(self):
        raise BadText(self.tokens[self.at][0])

    def close_bracket(self):
        bracket = self.brackets.pop()
        self.brackets[-1].operands.append(bracket.whole())
        self.at = self.at + 1

    def read_number(self, sign):
        if not is_number(self.token(), MOST_DIGITS):
            self.refuse()
        self.brackets[-1].operands.append(sign * int(self.token()))
        self.at = self.at + 1

    def read_atom(self):
        """Reads a number or a name."""
        token = self.token()
        if token == "-":
            self.at = self.at + 1
            self.read_number(-1)
        elif is_name(token) or token in OWN_NAMES:
            self.brackets[-1].operands.append(token)
            self.at = self.at + 1
        else:
            self.read_number(1)

    def read_opening(self):
        """Reads a token behind which an operand is still awaited; False if there is none."""
        token = self.token()
        if token == "not" and self.brackets[-1].test_may_begin():
            self.brackets[-1].operators.append("not")
            self.at = self.at + 1
        elif token == "(":
            self.brackets.append(Bracket(None))
            self.at = self.at + 1
        elif is_name(token) and self.next_token() == "(":
            self.brackets.append(Bracket(token))
            self.at = self.at + 2
        else:
            return False
        return True

    def is_empty_call(self):
        """Whether a call ends here without any argument."""
        bracket = self.brackets[-1]
        return self.token() == ")" and bracket.caller is not None and not bracket.operators

    def read_operand(self):
        """Reads an operand as far as its first atom, or as the `)` of a call without arguments."""
        while self.read_opening():
            if self.is_empty_call():
                return
        self.read_atom()

    def read_operator(self):
        """Reads a comma or an operator behind an operand."""
        token = self.token()
        bracket = self.brackets[-1]
        if token == ",":
            if bracket.caller is None or len(bracket.arguments) == MOST_ARGUMENTS - 1:
                self.refuse()
            bracket.end_argument()
        else:
            if token not in LEVELS or token == "not":
                self.refuse()
            if LEVELS[token] == COMPARISON_LEVEL and bracket.compares():
                self.refuse()
            bracket.fold(LEVELS[token])
            bracket.operators.append(token)
        self.at = self.at + 1

    def read_whole(self):
        """The expression that the whole text says."""
        self.read_operand()
        while self.token() != "" or len(self.brackets) > 1:
            if self.token() == ")" and len(self.brackets) > 1:
                self.close_bracket()
            else:
                self.read_operator()
                self.read_operand()
        return self.brackets[0].whole()


def read_expression(text):
    """The expression that a text says, or BadText with the index of what is not right."""
    reader = Reader(text)
    return reader.read_whole()
