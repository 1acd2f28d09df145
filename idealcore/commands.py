"""The commands of sessions: how they are read."""
from idealcore.errors import InvalidCommand, InvalidText
from idealcore.texts import polynomial_of

LETTERS = "abcdefghijklmnopqrstuvwxyz"
MOST_LETTERS = 8

# What stands behind the first word of each command: names that stand for an ideal, and names that need not.
PLACES = {
    "let": ("new",),
    "sum": ("old", "old", "new"),
    "product": ("old", "old", "new"),
    "meet": ("old", "old", "new"),
    "quotient": ("old", "old", "new"),
    "basis": ("old",),
    "dim": ("old",),
    "has": ("old",),
    "drop": ("old",),
}
WITH_TEXT = ("let", "has")


def is_name(word):
    """Whether a string is a name."""
    return 1 <= len(word) <= MOST_LETTERS and all(letter in LETTERS for letter in word)


def words_of(line):
    """The pairs of the place of the first character of a word, and the word."""
    found = []
    start = 0
    for place, sign in enumerate(line + " "):
        if sign == " ":
            if start < place:
                found.append((start, line[start:place]))
            start = place + 1
    return found


class Line:
    """A line that is not blank, read as a command: its first word, the names behind it, the polynomials of its texts.

    The names that stand for ideals at that time are the keys of a dict.
    """

    def __init__(self, coding, number, text, known):
        self.number = number
        self.text = text
        words = words_of(text)
        start, self.word = words[0]
        if self.word not in PLACES:
            self.fail(start)
        places = PLACES[self.word]
        self.labels = []
        for index, place in enumerate(places):
            self.take_name(words[index + 1:index + 2], place == "old", known)
        behind = words[len(places) + 1:]
        self.polys = []
        if self.word in WITH_TEXT:
            start, name = words[len(places)]
            self.take_texts(coding, start + len(name))
        elif behind:
            self.fail(behind[0][0])

    def fail(self, place):
        """InvalidCommand for the character at a place of the line."""
        raise InvalidCommand(line=self.number, column=place + 1)

    def take_name(self, words, must_stand, known):
        """Takes the next word, if there is one, as a name that perhaps must stand for an ideal."""
        if not words:
            self.fail(len(self.text))
        start, word = words[0]
        if not is_name(word) or must_stand and word not in known:
            self.fail(start)
        self.labels.append(word)

    def take_texts(self, coding, start):
        """Takes what is left of the line as texts: several ones for let, perhaps none, one for other commands."""
        rest = self.text[start:]
        if self.word != "let":
            self.take_text(coding, start, rest)
        elif rest.strip(" ") != "":
            for text in rest.split(","):
                self.take_text(coding, start, text)
                start += len(text) + 1

    def take_text(self, coding, start, text):
        """Takes the text of a polynomial."""
        try:
            self.polys.append(polynomial_of(coding, text))
        except InvalidText as error:
            self.fail(start + error.place)


def lines_of(coding, text, known):
    """The lines of a text that are not blank, if all can be run: InvalidCommand.

    Known is a dict whose keys are the names that stand for ideals ahead of the text.
    """
    names = {name: True for name in known}
    found = []
    for index, row in enumerate(text.split("\n")):
        if row.strip(" ") != "":
            line = Line(coding, index + 1, row, names)
            found.append(line)
            names[line.labels[-1]] = True
            if line.word == "drop":
                del names[line.labels[-1]]
    return found
