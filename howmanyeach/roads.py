"""The greatest products of the ways and rings of a model, worked out once for all its kinds."""

from howmanyeach.leads import is_broken, steps_of, weight_of
from howmanyeach.ratios import Ratio
from howmanyeach.values import other_end


class Roads:
    """The steps of a model, and the best ways that they make.

    leads: a dict from the steps that are not broken to tuples (kind, goal,
    what the step counts in a product);
    broken: a dict from the broken steps to the kinds from which they lead;
    best: a dict from each kind to a dict from the kinds to which ways lead
    from it to tuples (product, way). The product is the greatest one of the
    ways with fewer steps than the model has kinds. For a full kind this is
    the greatest one of all ways, since no ring on them has a product above 1.
    """

    def __init__(self, model):
        self.leads = {}
        self.broken = {}
        for link, end in steps_of(model):
            kind, goal = model.kind_at(link, end), model.kind_at(link, other_end(end))
            if is_broken(model, link, end):
                self.broken[(link, end)] = kind
            else:
                self.leads[(link, end)] = (kind, goal, weight_of(model, link, end))
        self.best = {kind: self._best_from(kind, len(model.kinds()) - 1) for kind in model.kinds()}

    def paper_for(self, kind):
        """Return a paper that shows that the kind is empty, None if it is full."""
        for goal in sorted(self.best[kind]):
            way = self.best[kind][goal][1]
            for step in self.broken:
                if self.broken[step] == goal:
                    return (way, step)
            for step in self.leads:
                product, ring = self.ring_by(step)
                if self.leads[step][0] == goal and Ratio(1).is_below(product):
                    return (way, ring)
        return None

    def ring_by(self, step):
        """Return a tuple (product, ring) for a step that is not broken, (0, None) without a ring.

        The ring begins with the step. The product is the greatest one of such
        rings with at most as many steps as the model has kinds: if any ring
        has a product above 1, then one of these.
        """
        kind, goal, weight = self.leads[step]
        if kind not in self.best[goal]:
            return (Ratio(0), None)
        product, way = self.best[goal][kind]
        return (weight * product, [step] + way)

    def product_to(self, kind, goal):
        """Return the greatest product of a way, 0 without a way."""
        return self.best[kind][goal][0] if goal in self.best[kind] else Ratio(0)

    def _best_from(self, kind, most_steps):
        best = {kind: (Ratio(1), [])}
        for _ in range(most_steps):
            best = self._one_step_further(best)
        return best

    def _one_step_further(self, best):
        """Return the best of these ways, and of those with one step more."""
        further = dict(best)
        for step in self.leads:
            kind, goal, weight = self.leads[step]
            if kind in best:
                product = best[kind][0] * weight
                if goal not in further or further[goal][0].is_below(product):
                    further[goal] = (product, best[kind][1] + [step])
        return further
