"""All that can happen to libraries day by day, and how soon an enemy wins."""

from meltlibrary.libraries import rank_of


def state_of(masks):
    """The masks of a library as an ascending tuple."""
    # What can happen is the same in any order of the tablets.
    return tuple(sorted(masks))


def all_rests(state, melts):
    """What is left of a state, for each lot of so many of its masks that can melt."""
    rows = [(state, 0)]
    for _ in range(melts):
        # A lot is taken in ascending order alone, so that it is taken once.
        rows = [(row[:at] + row[at + 1:], at) for row, low in rows for at in range(low, len(row))]
    return [row for row, _ in rows]


def sums_of_few(masks, most):
    """The ascending list of the unlike sums of at most so many of the masks."""
    sums = [0]
    for _ in range(most):
        # A mask that is taken twice cancels out, so that this is a sum of fewer.
        sums = sorted({one ^ other for one in sums for other in (0, *masks)})
    return sums


def states_behind(rest, most, goal, melts):
    """The list of the states that so many writings make of what is left, none if its rank is below a goal."""
    if rank_of(rest) < goal:
        return []
    states = [rest]
    for _ in range(melts):
        # Each writing may use what the ones ahead of it have written.
        states = sorted({state_of([*state, fresh]) for state in states for fresh in sums_of_few(state, most)})
    return states


class Play:
    """All states that can come of some, for as long as the rank of what is left reaches a goal.

    Texts are kept exactly if the rank is their number, which is then the goal. Each day so
    many masks as melts says melt at once. `rests` has what can be left of each state,
    `states` the states behind each of these.
    """

    def __init__(self, starts, most, goal, melts):
        self.rests = {}
        self.states = {}
        waiting = list(starts)
        while waiting:
            state = waiting.pop()
            if state not in self.rests:
                rests = all_rests(state, melts)
                self.rests[state] = rests
                for rest in rests:
                    if rest not in self.states:
                        behind = states_behind(rest, most, goal, melts)
                        self.states[rest] = behind
                        waiting.extend(behind)

    def comes_again(self, state):
        """Whether a librarian can write a state again behind whatever melting."""
        return all(state in self.states[rest] for rest in self.rests[state])

    def is_lost(self, rest, lost):
        """Whether a librarian cannot but write a state that is lost."""
        return all(state in lost for state in self.states[rest])

    def is_losing(self, state, doomed):
        """Whether the enemy can melt a state to one of the rests that are doomed."""
        return any(rest in doomed for rest in self.rests[state])

    def newly_lost(self, lost):
        """The list of the further states that are lost a day ahead of those that are."""
        doomed = {rest: True for rest in self.states if self.is_lost(rest, lost)}
        return [state for state in self.rests if state not in lost and self.is_losing(state, doomed)]


def days_lost(play):
    """For each state from which the enemy wins the least number of days within which it does."""
    lost = {}
    day = 1
    fresh = play.newly_lost(lost)
    while fresh:
        for state in fresh:
            lost[state] = day
        day += 1
        fresh = play.newly_lost(lost)
    return lost
