"""Papers of halves: which sides are taken, half by half; of part orders, too."""

from switchrows.leading import framed, one_switch
from switchrows.rings import fixed_sides, halves_of, sides_fit


def half_paper(order):
    """The paper of halves of an order, by fixed sides."""
    if len(order) == 2:
        return ("one",)
    sides = fixed_sides(order)
    even, odd = halves_of(order, sides)
    return ("halves", sides, half_paper(even), half_paper(odd))


def half_paper_holds(order, thing):
    """Whether a thing is a paper of halves of an order, or of a part order."""
    if len(order) == 2:
        return thing == ("one",)
    if not isinstance(thing, tuple) or len(thing) != 4 or thing[0] != "halves":
        return False
    sides = thing[1]
    if not sides_fit(order, sides):
        return False
    even, odd = halves_of(order, sides)
    return half_paper_holds(even, thing[2]) and half_paper_holds(odd, thing[3])


def setting_by(order, paper):
    """The setting of the whole net by a paper that holds, of an order or a part order."""
    if len(order) == 2:
        return one_switch(order)
    sides = paper[1]
    even, odd = halves_of(order, sides)
    return framed(order, sides, setting_by(even, paper[2]), setting_by(odd, paper[3]))
