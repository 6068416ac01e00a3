"""Plans of the namer."""

from undocells.bares import is_place
from undocells.hues import checked_hues, first_hues, is_painted_over, names_behind, painted, unpainted, worse_hue
from undocells.search import check_small


def told_hues(bare, painting):
    """A painting, None being the first one, as binary ones."""
    if painting is None:
        return first_hues(check_small(bare))
    return checked_hues(bare, painting)


def plan_names(plan):
    """The greatest number of names on a way through a naming plan."""
    if plan == ():
        return 0
    return 1 + max(plan_names(plan[1]), plan_names(plan[2]))


def naming_fault(bare, plan, painting=None):
    """None, or the first word of what is wrong with a naming plan for a painting."""
    return naming_fault_in(bare, plan, told_hues(bare, painting))


def naming_fault_in(bare, plan, hues):
    """None, or the first fault of a naming plan; the painting is told as binary ones."""
    if not isinstance(plan, tuple) or len(plan) not in (0, 3):
        return "form"
    if plan == ():
        return None if is_painted_over(bare, hues) else "early"
    if is_painted_over(bare, hues):
        return "idle"
    place, red, blue = plan
    if not is_place(bare, place) or (hues[0] | hues[1]) >> place & 1:
        return "place"
    word = naming_fault_in(bare, red, painted(hues, place, True))
    return naming_fault_in(bare, blue, painted(hues, place, False)) if word is None else word


def naming_plan(bare, painting=None):
    """The plan with the fewest names, which names the least place that helps at each painting."""
    return naming_in(bare, told_hues(bare, painting), {})


def naming_in(bare, hues, known):
    """The plan for a painting; known keeps the names that are needed, and is changed."""
    needed = names_behind(bare, hues, known)
    if needed == 0:
        return ()
    helping = [place for place in unpainted(bare, hues) if worse_hue(bare, hues, place, known) < needed]
    place = helping[0]
    red = naming_in(bare, painted(hues, place, True), known)
    return (place, red, naming_in(bare, painted(hues, place, False), known))
