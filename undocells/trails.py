"""Trails of deeds over numbered words: done word by word, turned about, and made into programs."""

from undocells.basics import is_sequence, is_within
from undocells.bwprogs import Program, is_expression
from undocells.errors import BadInputs, BadTrail
from undocells.plain import expression_word
from undocells.readings import names_in
from undocells.words import check_width, step_word

# the word of each deed turned about; the others stay
TURNED_DEEDS = {"add": "sub", "sub": "add", "open": "shut", "shut": "open"}
CHANGES = {"add": "+", "sub": "-", "xor": "^"}
CHECKS = {"holds": 1, "fails": 0}


def word_names(many):
    """The names of so many numbered words."""
    return tuple([f"w{number}" for number in range(many)])


def checked_words(words, width):
    """The words as a list, however many they are."""
    if not is_sequence(words):
        raise BadInputs(-1, "many")
    for index, word in enumerate(words):
        if not is_within(word, 0, (1 << width) - 1):
            raise BadInputs(index, "word")
    return list(words)


def is_expression_over(thing, names):
    """Whether it is an expression over these names alone; names is a dict."""
    return is_expression(thing) and all([name in names for name in names_in(thing)])


def is_living(thing, living):
    """Whether it is the name of a living word."""
    return isinstance(thing, str) and thing in living


def is_deed(deed, living):
    """Whether it is a deed over the living words; living is a dict from each name to its word."""
    if not isinstance(deed, tuple) or deed == () or not isinstance(deed[0], str):
        return False
    if deed[0] in CHECKS:
        return len(deed) == 2 and is_expression_over(deed[1], living)
    if len(deed) != 3:
        return False
    _, name, other = deed
    if deed[0] == "open":
        return name == f"w{len(living)}" and is_expression_over(other, living)
    if not is_living(name, living):
        return False
    if deed[0] == "swap":
        return is_living(other, living) and name != other
    if deed[0] == "shut" and name != f"w{len(living) - 1}":
        return False
    if deed[0] not in CHANGES and deed[0] != "shut":
        return False
    return is_expression_over(other, living) and name not in names_in(other)


def do_deed(deed, living, width):
    """Do a deed; living is changed. False if what it checks is not so."""
    if deed[0] in CHECKS:
        return (expression_word(deed[1], living, width) != 0) == (deed[0] == "holds")
    _, name, other = deed
    if deed[0] == "swap":
        living[name], living[other] = living[other], living[name]
        return True
    worth = expression_word(other, living, width)
    if deed[0] == "open":
        living[name] = worth
    elif deed[0] == "shut":
        return living.pop(name) == worth
    else:
        living[name] = step_word((CHANGES[deed[0]],), (living[name], worth), width)
    return True


def trail_standings(trail, width, words):
    """Yield the living words at the beginning and behind each deed."""
    check_width(width)
    first = checked_words(words, width)
    if not is_sequence(trail):
        raise BadTrail(-1, "form")
    deeds = tuple(trail)
    living = dict(zip(word_names(len(first)), first))
    yield tuple(first)
    for index, deed in enumerate(deeds):
        if not is_deed(deed, living):
            raise BadTrail(index, "form")
        if not do_deed(deed, living, width):
            raise BadTrail(index, "check")
        yield tuple(living.values())


def trail_back(trail):
    """The trail turned about."""
    return tuple([(TURNED_DEEDS.get(deed[0], deed[0]), *deed[1:]) for deed in trail[::-1]])


def straight_program(trail, many):
    """The program of one routine that does just the deeds of the trail of a run over so many words."""
    blocks, locals_begun = [[]], []
    for deed in trail:
        if deed[0] == "open":
            locals_begun.append(deed)
            blocks.append([])
        elif deed[0] == "shut":
            _, name, first = locals_begun.pop()
            body = tuple(blocks.pop())
            blocks[-1].append(("local", name, first, body, deed[2]))
        elif deed[0] in CHECKS:
            blocks[-1].append(("if", deed[1], (), (), ("number", CHECKS[deed[0]])))
        else:
            blocks[-1].append(deed)
    return Program([("made", word_names(many), tuple(blocks[0]))])
