"""Trials: stretches behind which an object is as it was ahead of them."""


class Trial:
    """What `with` takes to give an object, and to set it back at the end.

    The object keeps all that changes in its attribute _state, and gives this
    attribute another value for each change, without a change to the old one.
    """

    def __init__(self, held):
        self.held = held
        self.state = None

    def __enter__(self):
        self.state = self.held._state
        return self.held

    def __exit__(self, kind, value, trace):
        held = self.held
        held._state = self.state
