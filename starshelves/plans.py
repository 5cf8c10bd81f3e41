"""Plans as objects."""

from starshelves.askkinds import is_mark
from starshelves.demands import demand
from starshelves.errors import NotUsable
from starshelves.kinds import is_integer, is_lot
from starshelves.lying import most_liars
from starshelves.reading import read_numbers, reads, told_rank
from starshelves.rounds import unit_marks


class Plan:
    """A plan of these marks, one for each round; it never changes."""

    def __init__(self, hall, *marks):
        for k, mark in enumerate(marks):
            if not is_mark(hall, mark):
                raise NotUsable("marks", k)
        demand(len(marks) > 0, "marks")
        self._hall = hall
        self._marks = marks

    @property
    def hall_now(self):
        """The hall."""
        return self._hall

    @property
    def marks_now(self):
        """The marks, in order."""
        return self._marks

    def __getitem__(self, index):
        """The mark of this round."""
        demand(is_integer(index) and 0 <= index < len(self._marks), "index")
        return self._marks[index]

    def __contains__(self, thing):
        """Whether any value is one of the marks."""
        return is_mark(self._hall, thing) and thing in self._marks

    def __len__(self):
        """How many rounds there are."""
        return len(self._marks)

    def __iter__(self):
        return iter(self._marks)

    def __eq__(self, other):
        return isinstance(other, Plan) and self._hall == other._hall and self._marks == other._marks

    def __add__(self, other):
        """The Plan with the rounds of the other one behind its own."""
        demand(isinstance(other, Plan) and self._hall == other._hall, "other")
        return Plan(self._hall, *self._marks, *other._marks)

    def __call__(self, silent):
        """Whether it reads in spite of the lot, silent in all rounds."""
        return reads(self._hall, self._marks, all_silent(self, silent))

    def told(self, silent):
        """What it tells in spite of the lot."""
        return told_rank(self._hall, self._marks, all_silent(self, silent))

    def numbers(self, silent):
        """Read-numbers for the lot."""
        return read_numbers(self._hall, self._marks, all_silent(self, silent))

    def borne(self, silent):
        """How many liars it bears beside the lot."""
        return most_liars(self._hall, self._marks, all_silent(self, silent))


class Units(Plan):
    """The plan that has, for each of these lots, the mark with 1 on it and 0 elsewhere."""

    def __init__(self, hall, *lots):
        size = hall[0][1]
        for k, lot in enumerate(lots):
            if not is_lot(size, lot):
                raise NotUsable("lots", k)
        marks = unit_marks(size, lots)
        Plan.__init__(self, hall, *marks)
        self._lots = lots

    @property
    def lots_now(self):
        """The lots, in order."""
        return self._lots


def all_silent(one, silent):
    """The silences of a Plan with this lot silent in all rounds."""
    demand(is_lot(one.hall_now[0][1], silent), "silent")
    return (silent,) * len(one.marks_now)
