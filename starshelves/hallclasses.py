"""Halls as objects."""

from starshelves.books import star_of
from starshelves.clearing import most_borne
from starshelves.demands import demand
from starshelves.hallchecker import lets_hall
from starshelves.kinds import is_word_in
from starshelves.mendchecker import lets_mend
from starshelves.mending import can_mend, distance_of, least_losses, mended, menders_of
from starshelves.mendpapers import mend_paper


class Hall:
    """A hall; it never changes."""

    def __init__(self, keep, hide):
        lets_hall((keep, hide))
        self._keep = keep
        self._hide = hide
        self._star = star_of(keep, hide)

    @property
    def keep_now(self):
        """The book of what is kept."""
        return self._keep

    @property
    def hide_now(self):
        """The book of the covers."""
        return self._hide

    @property
    def form_now(self):
        """The hall."""
        return (self._keep, self._hide)

    @property
    def star_now(self):
        """The star of both books."""
        return self._star

    @property
    def places_now(self):
        """How many shelves there are."""
        return self._keep[1]

    def __call__(self, lot):
        """Whether the lot can be lost."""
        return can_mend((self._keep, self._hide), lot)

    def __getitem__(self, shelf):
        """The set of the least lots of other shelves that mend the shelf."""
        return menders_of((self._keep, self._hide), shelf)

    def __iter__(self):
        raise TypeError("a Hall is not iterated over")

    def __contains__(self, thing):
        """Whether any value is a word of keep."""
        return is_word_in(self._keep, thing)

    def __len__(self):
        """The rank of keep."""
        return len(self._keep[2])

    def __eq__(self, other):
        return isinstance(other, Hall) and self._keep == other._keep and self._hide == other._hide

    def losses(self):
        """The set of the least lots that cannot be lost."""
        return least_losses((self._keep, self._hide))

    def distance(self):
        """The fewest shelves of a lot that cannot be lost."""
        return distance_of((self._keep, self._hide))

    def borne(self, lot):
        """The most other shelves whose lies can be cleared while the lot is lost."""
        return most_borne((self._keep, self._hide), lot)

    def mend(self, held):
        """The stock by what some shelves hold."""
        return mended((self._keep, self._hide), held)

    def paper(self, lot):
        """A paper on whether the lot can be lost."""
        return mend_paper((self._keep, self._hide), lot)

    def judged(self, lot, thing):
        """Whether the lot can be lost, by any value that is a paper."""
        return lets_mend((self._keep, self._hide), lot, thing)

    def exchanged(self):
        """The Hall of hide and keep."""
        demand(len(self._hide[2]) > 0, "hide")
        return Hall(self._hide, self._keep)

    @classmethod
    def of(cls, thing):
        """The Hall of any value that is a hall."""
        lets_hall(thing)
        keep, hide = thing
        return Hall(keep, hide)
