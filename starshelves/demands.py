"""How a parameter that is not as the document states is refused."""

from starshelves.errors import NotUsable


def demand(fits, name):
    """Refuse the parameter with this name unless it fits."""
    if not fits:
        raise NotUsable(name, -1)
