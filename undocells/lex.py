"""Texts cut into tokens."""

from undocells.errors import BadText
from undocells.words import MOST_NUMBER

LETTERS = "abcdefghijklmnopqrstuvwxyz"
FIGURES = "0123456789"
KEYWORDS = (
    "fun", "let", "repeat", "if", "else", "give", "pick", "table", "routine", "from", "loop",
    "until", "fi", "local", "end", "call", "back",
)
# Longer signs stand ahead of those that they begin with.
SIGNS = (
    "<=>", "==", "<<", ">>", "+=", "-=", "^=", "{", "}", "(", ")", "[", "]", ",", ";", "=",
    "+", "-", "*", "&", "|", "^", "<",
)
MOST_NAME = 8
MOST_BRACKETS = 20


def cut_text(text, most):
    """The tokens (kind, value, spot) of a text of at most so many characters."""
    if not isinstance(text, str):
        raise BadText(-1, "text")
    if len(text) > most:
        raise BadText(-1, "long")
    tokens = []
    brackets = 0
    spot = 0
    while spot < len(text):
        if text[spot] in " \n":
            spot += 1
            continue
        token, length = cut_token(text, spot)
        brackets = brackets_behind(token, brackets)
        tokens.append(token)
        spot += length
    tokens.append(("end", "", len(text)))
    return tuple(tokens)


def cut_token(text, spot):
    """The token that begins at the spot, and its length."""
    if text[spot] in LETTERS:
        return cut_word(text, spot)
    if text[spot] in FIGURES:
        return cut_number(text, spot)
    for sign in SIGNS:
        if text[spot:spot + len(sign)] == sign:
            return ("sign", sign, spot), len(sign)
    raise BadText(spot, "sign")


def row_of(text, spot, letters):
    """The longest row of these characters from the spot on."""
    behind = spot
    while behind < len(text) and text[behind] in letters:
        behind += 1
    return text[spot:behind]


def cut_word(text, spot):
    """A name or keyword."""
    word = row_of(text, spot, LETTERS + FIGURES)
    if len(word) > MOST_NAME:
        raise BadText(spot, "name")
    return ("word" if word in KEYWORDS else "name", word, spot), len(word)


def cut_number(text, spot):
    """A number from 0 to 4095 without leading 0."""
    figures = row_of(text, spot, FIGURES)
    # the length comes first: Python refuses to read very long numbers
    if len(figures) > 4 or int(figures) > MOST_NUMBER or len(figures) > 1 and figures[0] == "0":
        raise BadText(spot, "number")
    return ("number", int(figures), spot), len(figures)


def brackets_behind(token, brackets):
    """How many brackets count as passed and not closed behind the token."""
    _, value, spot = token
    if value in ("}", ")", "]"):
        return max(0, brackets - 1)
    if value not in ("{", "(", "["):
        return brackets
    if brackets == MOST_BRACKETS:
        raise BadText(spot, "deep")
    return brackets + 1


def is_name(text):
    """Whether it is a string that is one name."""
    if not isinstance(text, str) or not 1 <= len(text) <= MOST_NAME or text in KEYWORDS:
        return False
    return text[0] in LETTERS and row_of(text, 0, LETTERS + FIGURES) == text


def is_sign(token, value):
    """Whether the token is this sign or keyword."""
    return token[0] in ("sign", "word") and token[1] == value


def take_sign(tokens, at, value):
    """The number of the token behind this sign or keyword."""
    if not is_sign(tokens[at], value):
        raise BadText(tokens[at][2], "want")
    return at + 1


def take_name(tokens, at):
    """A name and the number of the token behind it."""
    kind, name, spot = tokens[at]
    if kind != "name":
        raise BadText(spot, "want")
    return name, at + 1


def take_number(tokens, at):
    """A number and the number of the token behind it."""
    kind, number, spot = tokens[at]
    if kind != "number":
        raise BadText(spot, "want")
    return number, at + 1
