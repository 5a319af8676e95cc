"""What a CAR hangs on."""


class Charger:
    """A meter that obeys no number twice."""

    def __init__(self):
        self._meter = 0
        self._last = None

    def obey(self, number, amount):
        """Add an amount if the number is greater than all obeyed ones; tell whether it is."""
        if self._last is not None and number <= self._last:
            return False
        self._meter += amount
        self._last = number
        return True

    def meter(self):
        """Return the meter."""
        return self._meter

    def last(self):
        """Return the number that was obeyed last, None at first."""
        return self._last

    def twin(self):
        """Return an independent Charger in the same state."""
        other = Charger()
        other._meter = self._meter
        other._last = self._last
        return other
