"""Roads: letters under way, each by a number of its own."""

from peersmeet.errors import NotOnRoad
from peersmeet.marks import is_number


class Roads:
    """Letters (giver, goal, word, end) by their numbers."""

    def __init__(self):
        self._letters = {}
        # The number that was given last; none is given again.
        self._last = 0

    def __len__(self):
        return len(self._letters)

    def put(self, letter):
        """Put a letter on the roads; told is its number."""
        self._last += 1
        self._letters[self._last] = letter
        return self._last

    def take_off(self, number):
        """Take the letter of a number off; it is told."""
        letter = self.letter(number)
        del self._letters[number]
        return letter

    def letter(self, number):
        """The letter of a number."""
        # A truth would be found where its number stands, and a list can't be looked for at all.
        if not is_number(number) or number not in self._letters:
            raise NotOnRoad(number)
        return self._letters[number]

    def doubled(self, number):
        """Put a letter that equals the one of a number; told is its number."""
        return self.put(self.letter(number))

    def numbers(self):
        """The numbers of all letters, a rising list."""
        return sorted(self._letters)

    def copied(self):
        """Roads with the same letters and numbers, which go their own way."""
        roads = Roads()
        roads._letters = dict(self._letters)
        roads._last = self._last
        return roads
