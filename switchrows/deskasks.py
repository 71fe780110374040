"""What a desk tells: each question is answered from m, the order and what is stuck alone."""

from switchrows.around import led_around
from switchrows.bitnets import bit_net, first_stay
from switchrows.comparing import compared
from switchrows.errors import NoRow
from switchrows.going import gone
from switchrows.leading import many_settings, setting_for
from switchrows.nettexts import read_number, show_net, show_setting
from switchrows.rings import rings_of
from switchrows.rounds import load_of, rounds_of
from switchrows.sorters import sorter
from switchrows.walking import way_of
from switchrows.wholes import whole

SORTED_BOUND = 10 ** 9
PARTING = " / "


def shown(numbers):
    """Numbers parted by blanks."""
    return " ".join([str(number) for number in numbers])


def shown_rows(rows):
    """Rows of numbers parted by strokes."""
    return PARTING.join([shown(row) for row in rows])


def tell_lead(m, order, stuck):
    """A setting that agrees with what is stuck and leads the order, or none."""
    kind, told = led_around(order, stuck)
    return f"led {show_setting(whole(m), told)}" if kind == "led" else "none"


def tell_rings(m, order, stuck):
    """The rings of the order; of two wires the one ring that both are in."""
    return shown_rows(rings_of(order))


def tell_many(m, order, stuck):
    """How many settings lead the order."""
    return str(many_settings(order))


def tell_net(m, order, stuck):
    """The net in one row."""
    return show_net(whole(m)).replace("\n", PARTING)


def tell_bits(m, order, bits):
    """What becomes of the things that go by bits, none of which stays."""
    kind, *told = gone(m, bits, order)
    if kind == "meet":
        return f"meet {shown(told)}"
    # Without bits the setting's text has no signs, and no blank stands ahead of it.
    return f"led {show_setting(bit_net(m, bits), told[0])}" if bits else "led"


def tell_rounds(m, order, bits):
    """The rounds of the things, none of which stays."""
    return shown_rows(rounds_of(m, bits, order))


def tell_load(m, order, bits):
    """The load's number, of things none of which stays."""
    return str(load_of(m, bits, order)[0])


PLAIN_ASKS = {"lead": tell_lead, "rings": tell_rings, "many": tell_many, "net": tell_net}
BIT_ASKS = {"bits": tell_bits, "rounds": tell_rounds, "load": tell_load}


def answer_to(m, order, stuck, words):
    """The answer to a question's words; NoRow or NoText where there is no such question."""
    word, *rest = words
    if word in PLAIN_ASKS and not rest:
        ask = PLAIN_ASKS[word]
        return ask(m, order, stuck)
    if word in BIT_ASKS:
        return answer_of_bits(m, order, word, read_bits(m, rest))
    if word == "way" and len(rest) == 1:
        return shown(way_of(whole(m), setting_for(order), read_number(rest[0], len(order))))
    if word == "sort" and len(rest) == len(order):
        return shown(compared(sorter(m), tuple(read_number(number, SORTED_BOUND) for number in rest))[0])
    raise NoRow("this is neither a deed nor a question")


def answer_of_bits(m, order, word, bits):
    """The answer to a question of bits: where some thing stays, that alone."""
    stay = first_stay(bits, order)
    if stay is not None:
        return f"stays {stay}"
    ask = BIT_ASKS[word]
    return ask(m, order, bits)


def read_bits(m, words):
    """The plain bits that words tell."""
    bits = tuple(read_number(word, m) for word in words)
    if len(set(bits)) != len(bits):
        raise NoRow("a bit is told twice")
    return bits
