"""Things that go by the bits of their own places."""

from switchrows.bitnets import first_meeting, first_stay, wanted_setting


def gone(m, bits, part):
    """What becomes of things that go by themselves: one stays, else two meet, else they are led."""
    stay = first_stay(bits, part)
    if stay is not None:
        return ("stays", stay)
    meeting = first_meeting(bits, part)
    if meeting is not None:
        return ("meet",) + meeting
    return ("led", wanted_setting(m, bits, part))
