"""Machines: one server of one caller, with its standings numbered, as it reads letters."""

from sitout.standings import letters, steps


class Machine:
    """The standings of a rule that can come, numbered from the first one on, and where each letter leads."""

    def __init__(self, rule, free):
        found = steps(rule, free)
        self.alphabet = letters(free)
        self.places = list(found)
        numbered = {standing: at for at, standing in enumerate(self.places)}
        # For each number the pairs (number behind, what it was), in the order of the letters.
        self.moves = [[(numbered[behind], what) for behind, what in found[standing]] for standing in self.places]

    def after(self, at, letter):
        """The number behind a letter that is read at a number, and what it was."""
        return self.moves[at][self.alphabet.index(letter)]

    def way(self, goal):
        """A shortest row of letters that leads from the first number to another one."""
        rows = {0: ()}
        waiting = [0]
        done = 0
        while goal not in rows:
            at = waiting[done]
            done += 1
            for letter, (behind, _) in zip(self.alphabet, self.moves[at]):
                if behind not in rows:
                    rows[behind] = (*rows[at], letter)
                    waiting.append(behind)
        return rows[goal]
