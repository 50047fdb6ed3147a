"""All errors of the package: KnobError, and the others directly below it."""


class KnobError(ValueError):
    """What is wrong with a call; value is what the error is about."""

    def __init__(self, value):
        self.value = value


class BadRatio(KnobError):
    """No fraction can be made of this."""


class BadText(KnobError):
    """This is not the text of a Ratio."""


class BadWord(KnobError):
    """This is not a word, or not the text of one."""


class OtherSize(KnobError):
    """This has not as many wires."""


class Crossing(KnobError):
    """This word does not pass the other one."""


class Passing(KnobError):
    """This word passes the other one."""


class BadTerms(KnobError):
    """These are not the terms of a Wave."""


class BadSetting(KnobError):
    """This is not a setting."""


class Loose(KnobError):
    """This knob has no angle."""


class BadName(KnobError):
    """This is not a name."""


class BadCircuit(KnobError):
    """The line with this number cannot stand in a circuit."""


class NoLine(KnobError):
    """No line has this number."""


class Long(KnobError):
    """There were more lines than this."""


class Many(KnobError):
    """There were more turns than this."""


class BadPlace(KnobError):
    """A line cannot be put at this place."""


class BadLine(KnobError):
    """This line cannot stand in the circuit."""


class BadShift(KnobError):
    """This is not a shift of the circuit."""


class NoKnob(KnobError):
    """There is no such knob."""


class BadNumber(KnobError):
    """This number is not one of those that may be asked for."""


class BadRows(KnobError):
    """These are not layers of the circuit."""


class BadStart(KnobError):
    """These words do not make a Start."""


class BadImages(KnobError):
    """These words do not make a Table."""


class BadSuspects(KnobError):
    """These are not suspects."""


class BadLooks(KnobError):
    """These are not looks."""


class Settled(KnobError):
    """There is nothing left to be told apart."""


class BadOffers(KnobError):
    """These are not offers."""


class BadWishes(KnobError):
    """These are not wishes."""


class Unlike(KnobError):
    """The line with this number cannot change places with the next one."""


class BadAngle(KnobError):
    """These are not the cosine and the sine of an angle."""


class NothingToUndo(KnobError):
    """No deed stands that could be taken back."""


class NothingToRedo(KnobError):
    """No deed was taken back that could be done again."""


class NoTrial(KnobError):
    """No trial is going on."""


class BadJournal(KnobError):
    """The line with this number is wrong in a journal."""


class BadSay(KnobError):
    """This line cannot be said to a desk."""
