"""Races: a reader goes along links while a writer changes them."""

from tosslanes.towers import links


class Race:
    """A memory, the writes that change it one after the other, and a reader who searches for a key in it.

    A state is (writes done, whether the key was there ahead of the first step, key, lane): None is told where no step
    was made, and for the head. The row `there` tells, by the number of writes done, whether the key is there.
    """

    def __init__(self, memory, told, there, key, manner, lanes):
        self.memory = memory
        # No link is written twice.
        self.changes = {place: (index, other) for index, (place, other) in enumerate(told)}
        self.there = there
        self.key = key
        self.manner = manner
        self.begin = (0, None, None, lanes)

    def answer(self, turns):
        """Return (answer, is_true) by a row of turns, behind which the reader goes on to its end."""
        state = self.begin
        for turn in turns:
            if turn == 1:
                state, found = self._step(state)
                if found is not None:
                    return found, self._is_true(state, found)
            elif self._may_write(state):
                state = self._written(state)
        found = None
        while found is None:
            state, found = self._step(state)
        return found, self._is_true(state, found)

    def outcomes(self):
        """Return the dict, sorted, from each (answer, is_true) to how many rows of turns end with it."""
        counts = {}
        # All states behind as many turns, with the number of the rows that lead to each.
        states = {self.begin: 1}
        while states:
            behind = {}
            for state, count in states.items():
                if self._may_write(state):
                    later = self._written(state)
                    behind[later] = behind.get(later, 0) + count
                later, found = self._step(state)
                if found is None:
                    behind[later] = behind.get(later, 0) + count
                else:
                    outcome = (found, self._is_true(later, found))
                    counts[outcome] = counts.get(outcome, 0) + count
            states = behind
        return {outcome: counts[outcome] for outcome in sorted(counts)}

    def bad_turns(self):
        """Return the first of the shortest rows of turns that end with a bad answer, None if there is none."""
        # From each state to the one ahead of it and the turn between them; the first way to it is the best one.
        ways = {self.begin: None}
        states = [self.begin]
        while states:
            behind = []
            for state in states:
                if self._may_write(state):
                    later = self._written(state)
                    if later not in ways:
                        ways[later] = (state, 0)
                        behind.append(later)
                later, found = self._step(state)
                if found is None:
                    if later not in ways:
                        ways[later] = (state, 1)
                        behind.append(later)
                elif not self._is_true(later, found):
                    return _turns(ways, state) + (1,)
            states = behind
        return None

    def _may_write(self, state):
        """Return whether there is a write left."""
        return state[0] < len(self.changes)

    def _written(self, state):
        """Return the state behind one write more."""
        done, first, at, level = state
        return done + 1, first, at, level

    def _step(self, state):
        """Return (state, answer) behind one step of the reader; the answer is None if it has not ended."""
        done, first, at, level = state
        if first is None:
            first = self.there[done]
        index, other = self.changes.get((at, level), (done, None))
        if index >= done:
            other = self.memory.get((at, level))
        if other is not None and other < self.key:
            return (done, first, other, level), None
        behind = (done, first, at, level)
        if other == self.key and (self.manner == "early" or level == 1):
            return behind, True
        if level == 1:
            return behind, False
        return (done, first, at, level - 1), None

    def _is_true(self, state, found):
        """Return whether an answer is right at some moment from the first step to the last one."""
        # The key comes, or goes, but once.
        return found == state[1] or found == self.there[state[0]]


def links_of(towers, lanes):
    """Return the memory of towers, with a head of so many lanes."""
    memory = {(None, level): None for level in range(1, lanes + 1)}
    for key, level, other in links(towers):
        memory[(key, level)] = other
    return memory


def _turns(ways, state):
    """Return the turns that lead to a state, by the dict of the states ahead and the turns."""
    turns = []
    while ways[state] is not None:
        state, turn = ways[state]
        turns.append(turn)
    return tuple(turns[::-1])
