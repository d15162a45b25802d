"""Belts: what comes in is put ahead of all, and the last one falls off."""


def pushed(belt, thing):
    """The belt behind the coming in of a thing."""
    return ((thing,) + belt)[:len(belt)]


def begun(places, args, empty):
    """The belt of so many places, empty in all, into which the args came in their order."""
    belt = (empty,) * places
    for arg in args:
        belt = pushed(belt, arg)
    return belt
