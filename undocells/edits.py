"""Edits of texts of the plain language, and the way back from each."""

from undocells.basics import is_sequence, is_within
from undocells.errors import BadEdit
from undocells.lex import LETTERS, is_name
from undocells.printer import print_text
from undocells.reader import read_text
from undocells.readings import Reading, renamed_expression

# how many things each form has
FORMS = {"span": 4, "rename": 4, "split": 4, "put in": 3}


def checked_form(edit):
    """The edit as a tuple, if it has one of the forms."""
    if not is_sequence(edit) or len(edit) == 0 or not isinstance(edit[0], str):
        raise BadEdit("edit")
    if edit[0] not in FORMS or len(edit) != FORMS[edit[0]]:
        raise BadEdit("edit")
    return tuple(edit)


def edited_text(text, edit):
    """The text behind an edit."""
    reading = read_text(text)
    told = checked_form(edit)
    new = spanned_text(text, told) if told[0] == "span" else print_text(Reading(edited_funs(reading.funs, told)))
    read_text(new)
    return new


def edit_back(text, edit):
    """A span edit that leads the new text back to the text."""
    new = edited_text(text, edit)
    return ("span", 0, len(new), text)


def spanned_text(text, edit):
    """The text behind an edit of a span."""
    _, at, many, put = edit
    if not is_within(at, 0, len(text)) or not is_within(many, 0, len(text) - at) or not isinstance(put, str):
        raise BadEdit("span")
    return text[:at] + put + text[at + many:]


def edited_funs(funs, edit):
    """The funs behind an edit of one of them."""
    for number, fun in enumerate(funs):
        if fun[0] == edit[1]:
            return (*funs[:number], edited_fun(fun, funs, edit), *funs[number + 1:])
    raise BadEdit("fun")


def edited_fun(fun, funs, edit):
    """The fun behind an edit of it."""
    if edit[0] == "rename":
        return renamed_fun(fun, edit[2], edit[3])
    if edit[0] == "split":
        return split_fun(fun, edit[2], edit[3])
    return fun_put_in(fun, funs, edit[2])


def let_names(body):
    """The let names in the statements of a body, as often as they stand there."""
    names = []
    for statement in body:
        if statement[0] == "let":
            names.append(statement[1])
        for block in blocks_of(statement):
            names.extend(let_names(block))
    return names


def blocks_of(statement):
    """The bodies within a statement."""
    if statement[0] == "repeat":
        return [statement[2]]
    return [statement[2], statement[3]] if statement[0] == "if" else []


def own_names(fun):
    """The parameters and let names of a fun, in order."""
    return [*fun[1], *let_names(fun[2])]


def renamed_body(body, names):
    """The statements with the names that are keys replaced."""
    return tuple([renamed_statement(statement, names) for statement in body])


def renamed_statement(statement, names):
    """One statement with the names that are keys replaced."""
    word = statement[0]
    if word == "repeat":
        return (word, statement[1], renamed_body(statement[2], names))
    if word == "if":
        bodies = [renamed_body(body, names) for body in statement[2:]]
        return (word, renamed_expression(statement[1], names), *bodies)
    return (word, names.get(statement[1], statement[1]), renamed_expression(statement[2], names))


def renamed_fun(fun, old, new):
    """The fun in which the name old is called new."""
    taken = own_names(fun)
    if old not in taken:
        raise BadEdit("name")
    if not is_name(new) or new in taken:
        raise BadEdit("new")
    name, parameters, body, result = fun
    names = {old: new}
    parameters = tuple([names.get(parameter, parameter) for parameter in parameters])
    return (name, parameters, renamed_body(body, names), renamed_expression(result, names))


def is_put(statement):
    """Whether it is an assignment of a call."""
    return statement[0] == "set" and statement[2][0] == "call"


def is_repeat(statement):
    """Whether it is a repeat."""
    return statement[0] == "repeat"


def wanted_in(body, is_wanted):
    """The statements of a body, those inside others too, that are wanted, as they are written."""
    found = []
    for statement in body:
        if is_wanted(statement):
            found.append(statement)
        for block in blocks_of(statement):
            found.extend(wanted_in(block, is_wanted))
    return found


def replaced_in(body, is_wanted, which, others):
    """The body with others in the place of the wanted statement of this number."""
    done = []
    left = which
    for statement in body:
        if is_wanted(statement):
            if left == 0:
                done.extend(others)
                left -= 1
                continue
            left -= 1
        blocks = []
        for block in blocks_of(statement):
            blocks.append(replaced_in(block, is_wanted, left, others))
            left -= len(wanted_in(block, is_wanted))
        done.append((*statement[:len(statement) - len(blocks)], *blocks))
    return tuple(done)


def wanted_at(body, is_wanted, which):
    """The wanted statement of this number."""
    found = wanted_in(body, is_wanted)
    if not is_within(which, 0, len(found) - 1):
        raise BadEdit("which")
    return found[which]


def split_fun(fun, which, first):
    """The fun in which a repeat becomes two, the one so many times."""
    name, parameters, body, result = fun
    _, times, inner = wanted_at(body, is_repeat, which)
    if not is_within(first, 0, times):
        raise BadEdit("first")
    others = (("repeat", first, inner), ("repeat", times - first, inner))
    return (name, parameters, replaced_in(body, is_repeat, which, others), result)


def fresh_names(many, taken):
    """So many short names that are not taken."""
    names = []
    number = 0
    while len(names) < many:
        figures, letter = divmod(number, len(LETTERS))
        # a letter and figures never are a keyword
        name = LETTERS[letter] + (str(figures - 1) if figures else "")
        if name not in taken:
            names.append(name)
        number += 1
    return names


def fun_put_in(fun, funs, which):
    """The fun in which the call of an assignment becomes the called fun's statements."""
    name, parameters, body, result = fun
    _, changed, (_, called, parts) = wanted_at(body, is_put, which)
    statements = put_statements([other for other in funs if other[0] == called][0], changed, parts, own_names(fun))
    return (name, parameters, replaced_in(body, is_put, which, (("repeat", 1, statements),)), result)


def put_statements(called, changed, parts, taken):
    """The statements that do what a call does: its expressions, the called fun's body, its result."""
    inner = {name: True for name in own_names(called)}
    names = dict(zip(inner, fresh_names(len(inner), taken)))
    lets = [("let", names[parameter], part) for parameter, part in zip(called[1], parts)]
    given = ("set", changed, renamed_expression(called[3], names))
    return (*lets, *renamed_body(called[2], names), given)
