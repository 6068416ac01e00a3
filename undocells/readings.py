"""What is read: expressions, the size of a reading, and the reading itself."""

# The operators by strength; a number or name stands above all of them.
STRENGTHS = {"==": 1, "<": 1, "|": 2, "^": 3, "&": 4, "+": 5, "-": 5, "*": 6, "<<": 7, ">>": 7}
TOP_STRENGTH = 8


def names_in(expression):
    """The unlike names in an expression, ascending."""
    return tuple(sorted(set(names_along(expression))))


def names_along(expression):
    """The names in an expression from left to right, as often as they stand there."""
    if expression[0] == "name":
        return [expression[1]]
    if expression[0] == "number":
        return []
    names = []
    for part in expression[2]:
        names.extend(names_along(part))
    return names


def renamed_expression(expression, names):
    """The expression with the names that are keys replaced, all at once."""
    if expression[0] == "name":
        return ("name", names.get(expression[1], expression[1]))
    if expression[0] == "number":
        return expression
    parts = [renamed_expression(part, names) for part in expression[2]]
    return (expression[0], expression[1], tuple(parts))


def drawn_size(reading):
    """The size of the program with all funs put in and all repeats drawn out."""
    sizes = {}
    size = 0
    for name, _, body, result in reading.funs:
        # a fun is measured once, however often it is called: its size may be very great
        size = body_size(body, sizes) + expression_size(result, sizes) + 1
        sizes[name] = size
    return size


def body_size(body, sizes):
    """The size of the statements of a body."""
    return sum([statement_size(statement, sizes) for statement in body])


def statement_size(statement, sizes):
    """The size of one statement; sizes tells those of the elder funs."""
    if statement[0] == "repeat":
        return 1 + statement[1] * body_size(statement[2], sizes)
    if statement[0] == "if":
        bodies = body_size(statement[2], sizes) + body_size(statement[3], sizes)
        return 1 + expression_size(statement[1], sizes) + bodies
    return 1 + expression_size(statement[2], sizes)


def expression_size(expression, sizes):
    """The size of an expression with the funs that it calls."""
    if expression[0] in ("number", "name"):
        return 1
    size = 1 + sum([expression_size(part, sizes) for part in expression[2]])
    return size + sizes[expression[1]] if expression[0] == "call" else size


class Reading:
    """The funs of a text, eldest first."""

    def __init__(self, funs):
        self.funs = funs

    @property
    def program(self):
        """The last fun."""
        return self.funs[-1]

    def __eq__(self, other):
        return isinstance(other, Reading) and self.funs == other.funs
