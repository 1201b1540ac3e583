"""A bench: edits that stand, are taken back wherever they stand, and are tried: 10.11 and 10.12."""

from wherelaid.edits import after_edits, check_edits
from wherelaid.errors import BadEdit, NoEdit
from wherelaid.ratios import is_whole
from wherelaid.skins import range_of
from wherelaid.wishes import broken_wish


class Trial:
    """What a bench was at the beginning of a with, and is again at its end."""

    def __init__(self, bench):
        self.bench = bench

    def __enter__(self):
        bench = self.bench
        self.weighing = bench.weighing
        self.standing = bench.standing
        self.log = bench.log
        self.given = bench._given
        return bench

    def __exit__(self, kind, value, trace):
        bench = self.bench
        bench.weighing = self.weighing
        bench.standing = self.standing
        bench.log = self.log
        bench._given = self.given
        return False


class Bench:
    """A weighing, the edits of it that stand, and all that was done."""

    def __init__(self, weighing):
        self.start = weighing
        self.weighing = weighing
        self.standing = ()
        self.log = ()
        self._given = 0

    def put(self, edit):
        """Let the edit stand behind all others, and return its number."""
        checked = self._checked(edit)
        number = self._given + 1
        standing = (*self.standing, (number, checked))
        self.weighing = _after(self.start, standing)
        self.standing = standing
        self.log = (*self.log, ("put", number, checked))
        self._given = number
        return number

    def _checked(self, edit):
        """Return the edit as check_edits returns it behind all standing ones, or raise BadEdit."""
        try:
            return check_edits(self.start, [*_edits_of(self.standing), edit])[-1]
        except BadEdit as error:
            raise BadEdit(0, error.what)

    def take_back(self, number):
        """Take the standing edit with this number out."""
        found = [couple for couple in self.standing if couple[0] == number]
        if not is_whole(number) or not found:
            raise NoEdit(number)
        standing = tuple([couple for couple in self.standing if couple[0] != number])
        self.weighing = _after(self.start, standing)
        self.standing = standing
        self.log = (*self.log, ("back", number, found[0][1]))

    def broken_now(self, wishes):
        """Return what broken_wish returns for the present weighing."""
        return broken_wish(self.weighing, wishes)

    def shown_range(self):
        """Return the Range of what is borne at present, or Tips."""
        return range_of(self.weighing.scale, self.weighing.borne)

    def trial(self):
        """Return an object for one with, at whose end all is as it was at its beginning."""
        return Trial(self)

    def tried(self, call):
        """Return what the function returns for the bench within a trial."""
        with self.trial() as bench:
            return call(bench)

    def __len__(self):
        return len(self.standing)

    def __iter__(self):
        return iter(self.standing)


def _edits_of(standing):
    return [edit for _, edit in standing]


def _after(start, standing):
    """Return the weighing after the standing edits."""
    return after_edits(start, _edits_of(standing))
