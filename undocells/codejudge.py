"""What is good code of the undoable machine."""

from undocells.coderows import slots_of

PARTNERS = {"go": "come", "come": "go"}


def regions_of(code):
    """For each row the section within which it stands, or -1."""
    regions = []
    region = -1
    for row in code.rows:
        if row[0] == "enter":
            region = row[1]
        regions.append(region)
        if row[0] == "leave":
            region = -1
    return tuple(regions)


def is_own(row):
    """Whether a row changes a slot by itself."""
    if row[0] not in ("add", "sub", "xor", "swap"):
        return False
    changed, *others = slots_of(row)
    return changed in others


def is_entered_well(code, number, entered):
    """Whether an enter row stands where it must; entered tells the sections of the enter rows above it."""
    if number > 0 and code.rows[number - 1][0] != "leave":
        return False
    section = code.rows[number][1]
    if section != len(entered):
        return False
    following = code.spans[section][1]
    # between an enter row and the next leave row stands another enter row exactly if that has the same span's end
    if section + 1 < len(code.spans) and code.spans[section + 1][1] == following:
        return False
    return following < len(code) and code.rows[following][1] == section


def is_in_place(code, number, entered, left):
    """Whether a row of a section, or one that names it, stands where it may."""
    row = code.rows[number]
    if row[0] == "enter":
        return is_entered_well(code, number, entered)
    if row[0] == "leave":
        return row[1] in entered and row[1] not in left
    return row[0] not in ("call", "back") or row[1] in left


def has_partner(code, number, regions):
    """Whether a go or come row has a partner."""
    row = code.rows[number]
    other = row[2]
    if other >= len(code) or regions[other] != regions[number]:
        return False
    partner = code.rows[other]
    return partner[0] == PARTNERS[row[0]] and partner[2] == number


def code_fault(code):
    """None, or the first row at fault and what is wrong with it."""
    regions = regions_of(code)
    entered, left = {}, {}
    for number, row in enumerate(code.rows):
        if is_own(row):
            return number, "own"
        if not is_in_place(code, number, entered, left):
            return number, "region"
        if row[0] in PARTNERS and not has_partner(code, number, regions):
            return number, "partner"
        if row[0] == "enter":
            entered[row[1]] = True
        elif row[0] == "leave":
            left[row[1]] = True
    return None
