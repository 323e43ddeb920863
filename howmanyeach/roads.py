"""The greatest products of the ways and rings of a model, worked out once for all its kinds."""

from howmanyeach.leads import parts_of_factor, parts_of_steps
from howmanyeach.ratios import Ratio


class Roads:
    """The steps of a model, and the best ways that they make.

    leads: a dict from the steps that are not broken to tuples (kind, goal,
    top, bottom), the last two being what the step counts in a product;
    broken: a dict from the broken steps to the kinds from which they lead;
    best: a dict from each kind to a dict from the kinds to which ways lead
    from it to tuples (top, bottom, way). The product top / bottom is the
    greatest one of the ways with fewer steps than the model has kinds. For a
    full kind this is the greatest one of all ways, since no ring on them has
    a product above 1.
    """

    def __init__(self, model):
        self.leads = {}
        self.broken = {}
        steps = parts_of_steps(model)
        for step in steps:
            kind, goal, _, most = steps[step]
            if most == 0:
                self.broken[step] = kind
            else:
                top, bottom = parts_of_factor(steps[step])
                self.leads[step] = (kind, goal, top, bottom)
        self.best = {kind: self._best_from(kind, len(model.kinds()) - 1) for kind in model.kinds()}

    def paper_for(self, kind):
        """Return a paper that shows that the kind is empty, None if it is full."""
        for goal in sorted(self.best[kind]):
            way = self.best[kind][goal][2]
            for step in self.broken:
                if self.broken[step] == goal:
                    return (way, step)
            for step in self.leads:
                if self.leads[step][0] == goal:
                    top, bottom, ring = self.ring_by(step)
                    if top > bottom:
                        return (way, ring)
        return None

    def ring_by(self, step):
        """Return a tuple (top, bottom, ring) for a step that is not broken, (0, 1, None) without a ring.

        The ring begins with the step. The product is the greatest one of such
        rings with at most as many steps as the model has kinds: if any ring
        has a product above 1, then one of these.
        """
        kind, goal, top, bottom = self.leads[step]
        if kind not in self.best[goal]:
            return (0, 1, None)
        way_top, way_bottom, way = self.best[goal][kind]
        return (top * way_top, bottom * way_bottom, [step] + way)

    def stiff_ring_by(self, step):
        """Return a ring with the product 1 that begins with any step, None if it is not stiff."""
        if step not in self.leads or self.paper_for(self.leads[step][0]) is not None:
            return None
        top, bottom, ring = self.ring_by(step)
        return ring if top == bottom else None

    def product_to(self, kind, goal):
        """Return the greatest product of a way, 0 without a way."""
        if goal not in self.best[kind]:
            return Ratio(0)
        top, bottom, _ = self.best[kind][goal]
        return Ratio(top, bottom)

    def _best_from(self, kind, most_steps):
        best = {kind: (1, 1, [])}
        for _ in range(most_steps):
            best = self._one_step_further(best)
        return best

    def _one_step_further(self, best):
        """Return the best of these ways, and of those with one step more."""
        further = dict(best)
        for step in self.leads:
            kind, goal, factor_top, factor_bottom = self.leads[step]
            if kind in best:
                top, bottom = best[kind][0] * factor_top, best[kind][1] * factor_bottom
                if goal not in further or further[goal][0] * bottom < top * further[goal][1]:
                    further[goal] = (top, bottom, best[kind][2] + [step])
        return further
