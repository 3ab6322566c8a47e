"""The store: a list of rows, changed by steps, that may fall at one of them."""

from eventledger.errors import Fell


class Store:
    """Rows that are written, let go and cut off, each deed a step, numbered from 0 on."""

    def __init__(self, rows=(), *, fall=None, signs=0):
        self._rows = list(rows)
        self._steps = 0
        self._fall = fall
        self._signs = signs
        # Kept apart from the step that was told, because a fall told later doesn't undo this one.
        self._fell = None

    def write(self, row):
        """Write a row behind the others; amid a fall so many first signs of it."""
        if self._falls_now() and self._signs > 0:
            self._rows.append(row[:self._signs])
        self._begin_step()
        self._rows.append(row)

    def let_go(self, many):
        """Let go of so many first rows."""
        self._begin_step()
        del self._rows[:many]

    def cut(self):
        """Cut off the last row."""
        self._begin_step()
        del self._rows[-1:]

    def rows(self):
        """The rows, in order."""
        return list(self._rows)

    def steps(self):
        """How many steps are done."""
        return self._steps

    def is_up(self):
        """Whether it hasn't fallen."""
        return self._fell is None

    def fall_at(self, step, *, signs=0):
        """Fall at this step, at none where it is None, whatever was told before."""
        self._fall = step
        self._signs = signs

    def _falls_now(self):
        """Whether the next step is the one at which it falls."""
        return self._fell is None and self._fall == self._steps

    def _begin_step(self):
        """Count a step that is done; refused with Fell where it falls, or fell."""
        if self._falls_now():
            self._fell = self._steps
        if self._fell is not None:
            raise Fell(self._fell)
        self._steps += 1
