"""Reading a string from left to right, whatever is written in it."""

from carriedfields.words import CAPITAL, SMALL, is_constant, is_word


class NoForm(ValueError):
    """What is read does not have the form that it must have; it is caught where it is known what was read."""


class Scanner:
    """A place in a string; what is taken must stand there, otherwise NoForm is raised."""

    def __init__(self, text):
        self.text = text
        self.place = 0

    def is_next(self, sign):
        """Whether this sign stands at the place."""
        return self.text[self.place:self.place + len(sign)] == sign

    def accepts(self, sign):
        """Whether this sign stands at the place; it is passed over then."""
        if not self.is_next(sign):
            return False
        self.place += len(sign)
        return True

    def skip(self, sign):
        """Pass over this sign."""
        if not self.accepts(sign):
            raise NoForm("another sign is due")

    def take(self, letters):
        """All characters from the place on that are among these letters, perhaps none."""
        start = self.place
        while self.place < len(self.text) and self.text[self.place] in letters:
            self.place += 1
        return self.text[start:self.place]

    def word(self):
        """The word at the place."""
        found = self.take(SMALL)
        if not is_word(found):
            raise NoForm("a word is due")
        return found

    def constant(self):
        """The constant at the place."""
        found = self.take(CAPITAL)
        if not is_constant(found):
            raise NoForm("a constant is due")
        return found

    def word_list(self, between):
        """One or more words with this sign between them."""
        found = [self.word()]
        while self.accepts(between):
            found.append(self.word())
        return tuple(found)

    def finish(self):
        """Nothing stands behind the place."""
        if self.place < len(self.text):
            raise NoForm("nothing else is due")
