"""Stacking: fields laid kind by kind, those of each kind on one arm, behind those of its forebears on this arm.

Kinds that bring fields on one arm and have a common heir must be forebears and heirs of one another. So of the kinds on
an arm that some kind is, one is all the others: it has fields there up to where its own end, and none is left out.
"""

from latekinds.rule import greatest


class Stacking:
    """The `places` of the fields of each kind, and its `sizes`: how many fields its object has on each arm it uses."""

    def __init__(self):
        self.places = []
        self.sizes = []

    def copied(self):
        """Another one of the same kinds that goes on apart."""
        twin = Stacking()
        twin.places = list(self.places)
        twin.sizes = list(self.sizes)
        return twin

    def take(self, parents, arm, many):
        """Lays the fields of the next kind, so many, on the arm."""
        rows = [self.sizes[parent] for parent in parents]
        used = max([len(row) for row in rows], default=0)
        if many == 0:
            self.places.append(())
            self.sizes.append(tuple(greatest(rows, used)))
            return
        size = greatest(rows, max(used, arm + 1))
        self.places.append(tuple([(arm, size[arm] + field) for field in range(many)]))
        size[arm] += many
        self.sizes.append(tuple(size))
