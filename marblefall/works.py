"""Works: a board with a moment that is changed by deeds, which can be undone."""

from marblefall.boards import is_within, need_stand, need_wheel
from marblefall.errors import NoDeed, NoNumber, NotNow
from marblefall.moments import fastened, handled, loosened
from marblefall.rest import end_of, settled
from marblefall.stands import one_more, together

MOST_LAID = 100


class Works:
    """A board at work."""

    def __init__(self, board, stand):
        need_stand(board, stand)
        wheels, cups = board
        self.board = board
        self.now = (stand, (0,) * len(wheels), (0,) * cups)
        self.gone = (0,) * len(wheels)
        self.past = []

    def go_on(self, now, gone):
        """Do a deed, behind which it is this moment and these are the counts."""
        self.past.append((self.now, self.gone))
        self.now = now
        self.gone = gone

    def lay(self, wheel, many):
        """Lay so many marbles at the wheel."""
        need_wheel(self.board, wheel)
        if not is_within(many, 1, MOST_LAID):
            raise NoNumber()
        stand, waiting, held = loosened(self.now)
        waiting[wheel] += many
        self.go_on(fastened(stand, waiting, held), self.gone)

    def handle(self, wheel):
        """Handle a marble at the wheel."""
        now = handled(self.board, self.now, wheel)
        self.go_on(now, one_more(self.gone, wheel))

    def settle(self):
        """Handle all to rest, and tell the counts."""
        found = settled(self.board, self.now)
        if found is None:
            raise NotNow()
        counts, last = found
        self.go_on(last, together(self.gone, counts))
        return counts

    def undo(self):
        """Undo the last deed that stands."""
        if len(self.past) == 0:
            raise NoDeed()
        self.now, self.gone = self.past.pop()

    def counts(self):
        """How often each wheel was handled by deeds that stand."""
        return self.gone

    def end(self):
        """The end of the moment."""
        return end_of(self.board, self.now)

    def moment(self):
        """The moment that is kept."""
        return self.now

    def twin(self):
        """Other works, alike, with the same deeds that can be undone."""
        other = Works(self.board, self.now[0])
        other.now = self.now
        other.gone = self.gone
        other.past = list(self.past)
        return other

    def __len__(self):
        return len(self.past)

    def __eq__(self, other):
        return (
            isinstance(other, Works) and self.board == other.board
            and self.now == other.now and self.gone == other.gone
        )

    def __repr__(self):
        return f"Works({sum(self.now[1])} waiting, {sum(self.now[2])} held)"
