"""Halls as objects."""

from starshelves.books import star_of
from starshelves.clearing import most_borne
from starshelves.demands import demand
from starshelves.hallchecker import lets_hall
from starshelves.kinds import is_word_in
from starshelves.mendchecker import lets_mend
from starshelves.mending import can_mend, distance_of, least_losses, mended, menders_of
from starshelves.mendpapers import mend_paper


class Hall:
    """A hall; it never changes."""

    def __init__(self, keep, hide):
        lets_hall((keep, hide))
        self._form = (keep, hide)
        self._star = star_of(keep, hide)

    @property
    def keep_now(self):
        """The book of what is kept."""
        return self._form[0]

    @property
    def hide_now(self):
        """The book of the covers."""
        return self._form[1]

    @property
    def form_now(self):
        """The hall."""
        return self._form

    @property
    def star_now(self):
        """The star of both books."""
        return self._star

    @property
    def places_now(self):
        """How many shelves there are."""
        return self._form[0][1]

    def __call__(self, lot):
        """Whether the lot can be lost."""
        return can_mend(self._form, lot)

    def __getitem__(self, shelf):
        """The set of the least lots of other shelves that mend the shelf."""
        return menders_of(self._form, shelf)

    def __iter__(self):
        raise TypeError("a Hall is not iterated over")

    def __contains__(self, thing):
        """Whether any value is a word of keep."""
        return is_word_in(self._form[0], thing)

    def __len__(self):
        """The rank of keep."""
        return len(self._form[0][2])

    def __eq__(self, other):
        return isinstance(other, Hall) and self._form == other._form

    def losses(self):
        """The set of the least lots that cannot be lost."""
        return least_losses(self._form)

    def distance(self):
        """The fewest shelves of a lot that cannot be lost."""
        return distance_of(self._form)

    def borne(self, lot):
        """The most other shelves whose lies can be cleared while the lot is lost."""
        return most_borne(self._form, lot)

    def mend(self, held):
        """The stock by what some shelves hold."""
        return mended(self._form, held)

    def paper(self, lot):
        """A paper on whether the lot can be lost."""
        return mend_paper(self._form, lot)

    def judged(self, lot, thing):
        """Whether the lot can be lost, by any value that is a paper."""
        return lets_mend(self._form, lot, thing)

    def exchanged(self):
        """The Hall of hide and keep."""
        demand(len(self._form[1][2]) > 0, "hide")
        return Hall(self._form[1], self._form[0])

    @classmethod
    def of(cls, thing):
        """The Hall of any value that is a hall."""
        lets_hall(thing)
        keep, hide = thing
        return Hall(keep, hide)
