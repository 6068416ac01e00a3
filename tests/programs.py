"""Texts of the plain language made by a fixed rule, and their meaning worked out by Python itself."""

from helpers import Rule

PAIRS = ("+", "-", "*", "&", "|", "^", "==", "<")
MONOTONE = ("+", "-", "*", "&", "|", "^")


class Writer:
    """Writes a program by a rule; lean programs keep to the kinds that any width may be cut from."""

    def __init__(self, seed, lean=False):
        self.rule = Rule(seed)
        self.lean = lean
        self.funs = []
        self.count = 0

    def gap(self):
        return self.rule.one_of(("", "", " ", "\n", "  "))

    def number(self):
        return str(self.rule.one_of((0, 1, 2, 3, 5, 7, 15, 16, 255, 4095)))

    def expression(self, names, depth):
        choice = self.rule.below(10 if depth else 3)
        if choice < 2 and names:
            return self.rule.one_of(names)
        if choice < 3:
            return self.number()
        if choice < 6:
            return self.pair(names, depth)
        if choice == 6 and self.funs:
            name, many = self.rule.one_of(self.funs)
            parts = [self.expression(names, depth - 1) for _ in range(many)]
            return f"{name}({','.join(parts)})"
        if choice == 7 and not self.lean:
            parts = [self.expression(names, depth - 1) for _ in range(3)]
            return f"pick({', '.join(parts)})"
        if choice == 8 and not self.lean:
            listed = ",".join(self.number() for _ in range(self.rule.one_of((1, 2, 4, 8, 16))))
            return f"table[{listed}]({self.expression(names, depth - 1)})"
        sign = "<<" if self.lean else self.rule.one_of(("<<", ">>"))
        return f"({self.expression(names, depth - 1)}){sign}{self.rule.below(14)}"

    def pair(self, names, depth):
        sign = self.rule.one_of(MONOTONE if self.lean else PAIRS)
        one, other = self.expression(names, depth - 1), self.expression(names, depth - 1)
        gap = self.gap()
        return self.rule.one_of((
            f"{one}{gap}{sign}{gap}{other}", f"({one}){sign}{other}", f"{one} {sign}({other})",
            f"(({one}) {sign} ({other}))"))

    def statements(self, names, depth):
        text, visible = "", list(names)
        for _ in range(self.rule.below(4) + (depth == 2)):
            choice = self.rule.below(8)
            if choice < 3:
                self.count += 1
                name = f"v{self.count}"
                text += f"let {name}={self.expression(visible, 2)};{self.gap()}"
                visible.append(name)
            elif choice < 6 and visible:
                text += f"{self.rule.one_of(visible)} = {self.expression(visible, 2)};"
            elif choice == 6 and depth:
                body, _ = self.statements(visible, depth - 1)
                text += f"repeat {self.rule.below(4)}{self.gap()}{{{body}}}"
            elif depth and not self.lean:
                yes, _ = self.statements(visible, depth - 1)
                no, _ = self.statements(visible, depth - 1)
                text += f"if {self.expression(visible, 1)} {{{yes}}} else{{{no}}}"
        return text, visible

    def fun(self, name):
        many = self.rule.below(4)
        parameters = [f"p{k}" for k in range(many)]
        body, visible = self.statements(parameters, 2)
        # names that were changed above come in once more, so that little of a fun is without a road to its result
        result = "".join(f"{part}{self.rule.one_of(MONOTONE)}" for part in visible[-3:]) + self.expression(visible, 2)
        text = f"fun {name}({', '.join(parameters)}){self.gap()}{{{body}give {result};}}"
        self.funs.append((name, many))
        return text

    def text(self):
        return "\n".join(self.fun(f"f{k}") for k in range(1 + self.rule.below(3)))


def made_text(seed, lean=False):
    """A program's text by a fixed rule."""
    return Writer(seed, lean).text()


def python_worth(reading, width, inputs):
    """The worth of a program, worked out by turning it into a Python function for each fun."""
    lines = []
    for name, parameters, body, result in reading.funs:
        lines.append(f"def f_{name}({', '.join('v_' + p for p in parameters)}):")
        python_body(body, 1, lines, [0])
        lines.append(f"    return {python_expression(result)}")
    space = {"M": 1 << width}
    exec("\n".join(lines), space)
    return space["f_" + reading.program[0]](*inputs)


def python_body(body, level, lines, count):
    blank = "    " * level
    lines.append(f"{blank}pass")
    for statement in body:
        if statement[0] == "repeat":
            count[0] += 1
            lines.append(f"{blank}for r{count[0]} in range({statement[1]}):")
            python_body(statement[2], level + 1, lines, count)
        elif statement[0] == "if":
            lines.append(f"{blank}if {python_expression(statement[1])} != 0:")
            python_body(statement[2], level + 1, lines, count)
            lines.append(f"{blank}else:")
            python_body(statement[3], level + 1, lines, count)
        else:
            lines.append(f"{blank}v_{statement[1]} = {python_expression(statement[2])}")


def python_expression(expression):
    word = expression[0]
    if word == "number":
        return f"({expression[1]} % M)"
    if word == "name":
        return f"v_{expression[1]}"
    parts = [python_expression(part) for part in expression[2]]
    if word == "call":
        return f"f_{expression[1]}({', '.join(parts)})"
    return python_operator(expression[1], parts)


def python_operator(kind, parts):
    if kind[0] in ("==", "<"):
        return f"(1 if {parts[0]} {kind[0]} {parts[1]} else 0)"
    if kind[0] in ("<<", ">>"):
        return f"(({parts[0]} {kind[0]} {kind[1]}) % M)"
    if kind[0] == "pick":
        return f"({parts[1]} if {parts[0]} != 0 else {parts[2]})"
    if kind[0] == "table":
        return f"({list(kind[1])}[{parts[0]} % {len(kind[1])}] % M)"
    return f"(({parts[0]} {kind[0]} {parts[1]}) % M)"


def some_inputs(many, width, rule, times):
    """Some input tuples, the extreme ones first."""
    most = (1 << width) - 1
    yield (0,) * many
    yield (most,) * many
    for _ in range(times):
        yield tuple(rule.below(most + 1) for _ in range(many))
