"""Nets, settings and part orders, written as texts and read from them."""

from switchrows.errors import NoText
from switchrows.nets import is_net, is_part

MOST_WIRES = 32
MOST_STAGES = 20
NONE_SIGN = "-"
IDLE_SIGN = "."
WAY_SIGNS = "=x"
HEAD = "wires "


def show_net(net):
    """The text of a net."""
    many, stages = net
    return "\n".join([f"{HEAD}{many}"] + [show_stage(stage) for stage in stages])


def show_stage(stage):
    """The line of a stage of a net."""
    if not stage:
        return NONE_SIGN
    return " ".join([f"{a}-{b}" for a, b in stage])


def read_net(text):
    """The net whose text this is, or NoText."""
    lines = checked_text(text).split("\n")
    if len(lines) - 1 > MOST_STAGES:
        raise NoText("a net is read of twenty stages at the most")
    many = read_head(lines[0])
    net = (many, tuple(read_stage(many, line) for line in lines[1:]))
    if not is_net(net):
        raise NoText("the lines are not those of a net")
    return net


def read_head(line):
    """The number of wires that the first line tells."""
    if not line.startswith(HEAD):
        raise NoText("the first line does not tell the wires")
    return read_number(line.removeprefix(HEAD), MOST_WIRES + 1)


def read_stage(many, line):
    """The pairs of wires of a line; whether they are a stage is asked of the net as a whole."""
    if line == NONE_SIGN:
        return ()
    return tuple(read_switch(many, word) for word in line.split(" "))


def read_switch(many, word):
    """The pair of wires of a word."""
    # Without a stroke the second part has no signs, and so is no number.
    a, stroke, b = word.partition("-")
    return (read_number(a, many), read_number(b, many))


def show_setting(net, setting):
    """The text of a setting of a net."""
    return " ".join([show_ways(ways) for ways in setting])


def show_ways(ways):
    """The word of a stage of a setting."""
    if not ways:
        return NONE_SIGN
    return "".join([WAY_SIGNS[way] for way in ways])


def read_setting(net, text):
    """The setting of a net whose text this is, or NoText."""
    stages = net[1]
    words = words_of(checked_text(text))
    if len(words) != len(stages):
        raise NoText("a setting has a word for each stage")
    return tuple(read_ways(stage, word) for stage, word in zip(stages, words))


def read_ways(stage, word):
    """The ways of the switches of a stage."""
    if not stage and word == NONE_SIGN:
        return ()
    if not stage or len(word) != len(stage):
        raise NoText("a stage of a setting has a sign for each switch")
    return tuple(read_way(sign) for sign in word)


def read_way(sign):
    """The way that a sign stands for."""
    # A text without signs, and both signs together, are in the signs, too.
    if len(sign) != 1 or sign not in WAY_SIGNS:
        raise NoText("a switch is straight or crossed")
    return WAY_SIGNS.index(sign)


def show_part(part):
    """The text of a part order."""
    return " ".join([show_place(place) for place in part])


def show_place(place):
    """The word of one wire of a part order."""
    return IDLE_SIGN if place is None else str(place)


def read_part(many, text):
    """The part order of so many wires whose text this is, or NoText."""
    part = tuple(read_place(many, word) for word in words_of(checked_text(text)))
    if not is_part(many, part):
        raise NoText("the words are not those of a part order")
    return part


def read_place(many, word):
    """The wire of a word, or None where it is idle."""
    return None if word == IDLE_SIGN else read_number(word, many)


def checked_text(thing):
    """The thing, where it is a text at all."""
    if not isinstance(thing, str):
        raise NoText("only a text can be read")
    return thing


def words_of(text):
    """The words of a text, one blank between; split alone would tell one word of a text without signs."""
    return text.split(" ") if text else []


def read_number(word, bound):
    """The number below a bound that a word writes in figures, without noughts ahead."""
    if not word.isascii() or not word.isdigit():
        raise NoText("a number is written in figures")
    if word.startswith("0") and word != "0":
        raise NoText("a number has no noughts ahead")
    # Python itself refuses to read very long numbers, so the length is asked first.
    if len(word) > len(str(bound)) or int(word) >= bound:
        raise NoText("the number is too great")
    return int(word)
