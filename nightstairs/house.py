"""A house that may be cut at any moment."""
from nightstairs.cells import disk_behind, edit_steps, first_disk, hour_steps, yard_now
from nightstairs.chargers import Charger
from nightstairs.errors import PowerCut, Wrong
from nightstairs.forms import is_count, is_yard
from nightstairs.yards import cars_of


class House:
    """A DISK, a Charger for each CAR that ever was in its goals, and power."""

    def __init__(self, yard):
        if not is_yard(yard):
            raise Wrong(0)
        self._disk = first_disk(yard)
        self._chargers = {}
        self._log = []
        self._has_power = True
        # How many STEPS are tried before power fails; None if it does not.
        self._steps_left = None
        self._add_chargers()

    def __eq__(self, other):
        return isinstance(other, House) and self._disk == other._disk and self.meters() == other.meters()

    def _add_chargers(self):
        """Add a Charger for each CAR in the goals that has none."""
        for name in cars_of(self._disk[0][0]):
            if name not in self._chargers:
                self._chargers[name] = Charger()

    def hour(self, number, supply):
        """Do the STEPS of an hour; return the amounts of its order, or {} if its number is closed."""
        if not is_count(number) or number < self._disk[1][0]:
            raise Wrong(0)
        if not is_count(supply):
            raise Wrong(1)
        self._check_power()
        self._do(hour_steps(self._disk, self.meters(), number, supply))
        (yard, closed), (last, last_supply, rows) = self._disk
        return {} if number <= closed else {name: amount for name, amount in rows}

    def edit(self, edits):
        """Do the STEP of EDITS."""
        self._check_power()
        self._do(edit_steps(self._disk, self.meters(), edits))

    def _check_power(self):
        if not self._has_power:
            raise PowerCut()

    def _do(self, steps):
        for step in steps:
            self._count_step()
            if step[0] == "send":
                self._send(step)
            else:
                self._disk = disk_behind(self._disk, step)
                self._add_chargers()

    def _count_step(self):
        """Let power fail if it is time."""
        if self._steps_left is None:
            return
        if self._steps_left > 0:
            self._steps_left -= 1
            return
        self._steps_left = None
        self._has_power = False
        raise PowerCut()

    def _send(self, step):
        """Let a Charger obey."""
        _, name, number, amount = step
        charger = self._chargers[name]
        if charger.obey(number, amount):
            self._log.append((number, name, amount))

    def fail_after(self, many):
        """Let power fail ahead of the STEP with this index, of all that are tried from now on."""
        self._steps_left = many

    def boot(self):
        """Give the power back."""
        self._has_power = True

    def yard(self):
        """Return the YARD with the needs that are left."""
        return yard_now(self._disk, self.meters())

    def disk(self):
        """Return the DISK."""
        return self._disk

    def meters(self):
        """Return the METERS of all Chargers."""
        return {name: self._chargers[name].meter() for name in sorted(self._chargers)}

    def log(self):
        """Return the tuple of what was obeyed, in the order in which it was."""
        return tuple(self._log)

    def twin(self):
        """Return an independent House in the same state."""
        other = House(self._disk[0][0])
        other._disk = self._disk
        other._chargers = {name: charger.twin() for name, charger in self._chargers.items()}
        other._log = list(self._log)
        other._has_power = self._has_power
        other._steps_left = self._steps_left
        return other
