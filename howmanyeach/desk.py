"""A desk: models and Tolds by names, and the commands on them."""

from howmanyeach.commands import answer_to, changed_by, check_names, is_thing, parts_of
from howmanyeach.errors import (CommandFailed, EachError, LimitError, MissingError, NothingToUndo, StateError,
                                UnknownThing)
from howmanyeach.trials import Trial
from howmanyeach.values import is_name

DONE = "done"


class Desk:
    """Models and Tolds by names, and the commands that have made them."""

    def __init__(self):
        # The things by name; the commands that were not taken back; the things ahead of each of them.
        # All of this is replaced, never changed, the Tolds too: trials and undone commands rely on it.
        self._state = ({}, [], [])

    def do(self, command):
        """Perform a command, and return its answer."""
        parts = parts_of(command)
        things, commands, past = self._state
        check_names(things, parts)
        if parts[0] == "undo":
            self.undo()
            return DONE
        changed = changed_by(things, parts)
        if changed is None:
            return answer_to(things, parts)
        self._state = (changed, commands + [command], past + [things])
        return DONE

    def do_all(self, *commands):
        """Perform several commands, all of them or none, and return the list of their answers."""
        state = self._state
        answers = []
        for position, command in enumerate(commands):
            try:
                answers.append(self.do(command))
            except (EachError, MissingError, StateError, LimitError) as error:
                self._state = state
                raise CommandFailed(position) from error
        return answers

    def undo(self):
        """Take back the last command that changed something and was not taken back."""
        _, commands, past = self._state
        if not commands:
            raise NothingToUndo()
        self._state = (past[-1], commands[:-1], past[:-1])

    def names(self):
        """Return the sorted list of the names."""
        return sorted(self._state[0])

    def model_named(self, name):
        """Return the model of this name."""
        return self._thing("model", name)

    def told_named(self, name):
        """Return a copy of the Told of this name."""
        return self._thing("told", name).copy()

    def log(self):
        """Return the list of the commands that changed something and were not taken back."""
        return list(self._state[1])

    def trial(self):
        """Return a context manager that gives this Desk, and sets it back at the end."""
        return Trial(self)

    def tried_by(self, deed):
        """Return what a function returns for this Desk, which is then as it was."""
        with Trial(self) as desk:
            return deed(desk)

    def __len__(self):
        return len(self._state[0])

    def __contains__(self, value):
        return is_name(value) and value in self._state[0]

    def _thing(self, form, name):
        if not is_thing(self._state[0], form, name):
            raise UnknownThing(name)
        return self._state[0][name]
