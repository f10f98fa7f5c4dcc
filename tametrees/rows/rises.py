"""Rows led on to the least ones whose presses keep bounds, however many steps this takes. Nothing is checked here."""

from tametrees.trees.solved import row_with_presses
from tametrees.trees.walks import rooted

# So often, for each place, 1s are added place by place before many of them are reckoned at once.
_TURNS = 20


class Rise:
    """What is added to a row of a definite tree until it keeps bounds.

    `excess` has for each place the press of the row, less the bound: integers. `added` tells what has been added.
    `level` is how much the worth in the class has grown, if the bounds are 0 and the row is one of a class.
    Nothing is added of itself at the place `kept`.
    """

    def __init__(self, numbers, near, excess):
        self.weights = numbers
        self.near = near
        self.left = list(excess)
        self.added = [0 for _ in numbers]
        self.level = 0
        self.kept = None

    def lift(self, place, many):
        """Adds an integer from 0 on at a place."""
        number = self.weights[place]
        self.level += many * (1 - self.left[place]) + number * (many * (many - 1) // 2)
        self.added[place] += many
        self.left[place] -= many * number
        for other in self.near[place]:
            self.left[other] += many

    def finish(self):
        """Adds as little as it can until no press is above its bound, but for that of the place that is kept."""
        while not self.climb(_TURNS * len(self.weights)):
            self.leap()

    def climb(self, most):
        """Adds at places whose press is above the bound, so many times at the most. Returns whether none is left."""
        waiting = [at for at, press in enumerate(self.left) if press > 0]
        turns = 0
        while len(waiting) > 0 and turns < most:
            place = waiting.pop()
            if self.left[place] > 0 and place != self.kept:
                self.lift(place, -(-self.left[place] // self.weights[place]))
                waiting.extend(self.near[place])
                turns += 1
        return len(waiting) == 0

    def leap(self):
        """Adds what rows of fractions tell to be missing.

        Take the places where something was added, and let each have just its bound as its press. What this asks for
        is missing in each row that keeps the bounds, for the others only have more.
        """
        gone = [at for at, added in enumerate(self.added) if added == 0 or at == self.kept]
        presses = [-press for press in self.left]
        missing = [0 for _ in self.weights]
        done = list(gone)
        for place in range(len(self.weights)):
            if place not in done:
                order, _ = rooted(self.near, place, gone)
                row = row_with_presses(self.weights, self.near, presses, place, gone)
                for other in order:
                    top, bottom = row[other]
                    missing[other] = -(-top // bottom)
                done.extend(order)
        for place, many in enumerate(missing):
            if many > 0:
                self.lift(place, many)
