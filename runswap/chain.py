"""Rounds played on many runs, of which most rounds join only a few."""

from runswap.turning import lengths_differ, turned

# Most rows are settled after so few rounds that turning all runs takes less time than making a chain of them.
FEW_ROUNDS = 4


def played(runs, most):
    """Return the runs after so many rounds, or after fewer if they are settled before; and how many were played."""
    rounds = 0
    while rounds < most and rounds < FEW_ROUNDS and not lengths_differ(runs):
        runs = turned(runs)
        rounds += 1
    if rounds < FEW_ROUNDS:
        return (runs, rounds)
    chain = Chain(runs)
    while rounds < most and chain.play():
        rounds += 1
    return (chain.runs_now(), rounds)


class Chain:
    """Runs as a chain in which a round looks only at those that the round before has joined.

    A round joins neighbouring runs with the same length, whose numbers are added, and then numbers and lengths
    change their roles. What are lengths now were numbers before, and neighbours had different ones. So two lengths
    can be the same only where one of them has just been added up.
    """

    def __init__(self, runs):
        # A 0 at each end, to which no number and no length is equal, spares questions about the ends.
        self._numbers = [0] + [number for number, _ in runs] + [0]
        self._lengths = [0] + [length for _, length in runs] + [0]
        self._ahead = list(range(-1, len(runs) + 1))
        self._behind = list(range(1, len(runs) + 3))
        # Nothing is known yet of the lengths in the first round.
        self._joined = list(range(1, len(runs) + 1))

    def play(self):
        """Play a round and return True, or return False if the runs are settled."""
        joined = []
        for run in self._joined:
            first = self._join(run)
            if first != 0:
                joined.append(first)
        if not joined:
            return False
        self._joined = joined
        self._numbers, self._lengths = self._lengths, self._numbers
        return True

    def _join(self, run):
        """Join the runs around this one that have its length to the first of them; return that, or 0 if none has."""
        lengths = self._lengths
        length = lengths[run]
        first = run
        while lengths[self._ahead[first]] == length:
            first = self._ahead[first]
        after = self._behind[first]
        # If this round has joined the run already, the first one of them has no such run behind it any more.
        if lengths[after] != length:
            return 0
        while lengths[after] == length:
            self._numbers[first] += self._numbers[after]
            after = self._behind[after]
        self._behind[first] = after
        self._ahead[after] = first
        return first

    def runs_now(self):
        """Return the runs after the rounds that have been played."""
        found = []
        run = self._behind[0]
        while self._numbers[run] != 0:
            found.append((self._numbers[run], self._lengths[run]))
            run = self._behind[run]
        return found
