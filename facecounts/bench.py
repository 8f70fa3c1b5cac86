"""A bench that keeps a closed net while it is swapped."""

from facecounts.closed import check_closed
from facecounts.errors import NoDeed
from facecounts.nets import joined
from facecounts.swaps import exchanged

FIRST_NET = ((0, 1), (0, 2), (1, 2))


class Bench:
    """Keeps a closed net, and what it was ahead of each deed that stands."""

    def __init__(self):
        self.kept = FIRST_NET
        self.past = []

    def net(self):
        """Tell the kept net."""
        return self.kept

    def lay(self, net):
        """Keep another closed net."""
        check_closed(net)
        self.go_on(net)

    def swap(self, swap):
        """Do a swap of the kept net."""
        self.go_on(exchanged(self.kept, swap))

    def join(self, net):
        """Join another closed net to the kept one."""
        check_closed(net)
        self.go_on(joined(self.kept, net))

    def undo(self):
        """Undo the last deed that stands."""
        if not self.past:
            raise NoDeed("there is no deed to undo")
        self.kept = self.past.pop()

    def go_on(self, net):
        """Keep this net, and what was kept ahead of it."""
        self.past.append(self.kept)
        self.kept = net
