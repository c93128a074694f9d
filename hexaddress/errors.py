"""The refusals of the program."""


# Any refusal: whoever wants to take them all takes this one.
class FloorError(ValueError):
    pass


# A direction, a number or a place that names no cell there.
class NoCell(FloorError):
    pass


# A number that is no figure 0 to 6.
class NoFigure(FloorError):
    pass


# A level that is not 0 to 4, or two levels that are not the same.
class NoLevel(FloorError):
    pass


# Two places between which no way leads.
class Apart(FloorError):
    pass
