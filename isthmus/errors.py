"""The errors that the program raises."""


class IsthmusError(ValueError):
    """Any error of the program."""


class BadForm(IsthmusError):
    """A context, type or term that is not built as the document says."""


class BadName(IsthmusError):
    """A name that is not in the context, or is bound or stands twice against the rule."""


class WrongType(IsthmusError):
    """A part that does not have the type that it must have."""


class NotFlat(IsthmusError):
    """A type that must be discrete at each place, and is not."""


class NotSmall(IsthmusError):
    """A type that has more objects at some place than its code can tell."""


class NotExchange(IsthmusError):
    """A map that is not one to one at some place."""


class NotOnly(IsthmusError):
    """A type that does not have exactly one object and one arrow at each place."""


class BadPlace(IsthmusError):
    """What is no place of the context, or no object of the type there."""


class BadStep(IsthmusError):
    """What is no step between the places, or no arrow between the objects."""


class BadText(IsthmusError):
    """A text that is not the text of any value."""


class TooLarge(IsthmusError):
    """A context or type with more objects and arrows than the program takes on."""
