"""A desk with a whole net, to which deeds and questions are said as texts of one row."""

from switchrows.deskasks import answer_to
from switchrows.errors import NoRow, NoText
from switchrows.nettexts import read_number, read_part, read_way
from switchrows.stuck import told_ways
from switchrows.wholes import whole

DONE = "ok"


class Desk:
    """The whole net of m, an order of its wires, and its stuck switches."""

    def __init__(self, m):
        self.size = m
        self.stages = whole(m)[1]
        self.places = tuple(range(whole(m)[0]))
        self.held = ()

    def order(self):
        """The order that the desk has now."""
        return self.places

    def stuck(self):
        """The switches that are stuck now."""
        return self.held

    def say(self, text):
        """The answer to a deed or a question, or NoRow."""
        if not isinstance(text, str):
            raise NoRow("only a text can be said")
        try:
            return self.deed_or_answer(text.split(" "))
        except NoText as refusal:
            raise NoRow("a word is not what is asked for there") from refusal

    def deed_or_answer(self, words):
        """Does a deed, or answers a question; NoRow or NoText where the words are neither."""
        word, *rest = words
        if word == "order":
            return self.take_order(rest)
        if word == "stick" and len(rest) == 3:
            return self.stick_switch(self.switch_of(rest), read_way(rest[2]))
        if word == "free" and len(rest) == 2:
            return self.free_switch(self.switch_of(rest))
        return answer_to(self.size, self.places, self.held, words)

    def take_order(self, words):
        """Has another order from now on."""
        order = read_part(len(self.places), " ".join(words))
        if None in order:
            raise NoRow("an order has no idle wires")
        self.places = order
        return DONE

    def switch_of(self, words):
        """The stage and number of a switch that the first two words tell."""
        stage = read_number(words[0], len(self.stages))
        return (stage, read_number(words[1], len(self.stages[stage])))

    def stick_switch(self, switch, way):
        """Has one more stuck switch."""
        if switch in told_ways(self.held):
            raise NoRow("the switch is stuck already")
        self.held = tuple(sorted(self.held + (switch + (way,),)))
        return DONE

    def free_switch(self, switch):
        """Has a stuck switch no more."""
        if switch not in told_ways(self.held):
            raise NoRow("the switch is not stuck")
        self.held = tuple(one for one in self.held if one[:2] != switch)
        return DONE
