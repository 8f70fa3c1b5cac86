"""A desk that is told rows of words, and answers for its bench."""

from facecounts.bench import Bench
from facecounts.errors import NoLine, NoText
from facecounts.nets import counts
from facecounts.rows import steps, turned
from facecounts.swaps import swaps
from facecounts.texts import read, written

DONE = "ok"


def net_text(net):
    """Tell the net, written."""
    return written(net)


def counts_text(net):
    """Tell the counts of the net, written."""
    return numbers_text(counts(net))


def turned_text(net):
    """Tell the counts of the net turned, written."""
    return numbers_text(turned(counts(net)))


def steps_text(net):
    """Tell the steps of the counts of the net, written."""
    return numbers_text(steps(counts(net)))


def swaps_text(net):
    """Tell how many swaps of the net there are, written."""
    return str(len(swaps(net)))


def numbers_text(numbers):
    """Tell the numbers with one blank between each two."""
    return " ".join([str(number) for number in numbers])


def net_in(text):
    """Tell the net that is written as this text; refuse the row where there is none."""
    try:
        return read(text)
    except NoText:
        raise NoLine("a net as it is written is due") from None


def swap_in(text):
    """Tell the two faces that are written as this text; refuse the row where there are none."""
    words = text.split(" ")
    if len(words) != 2:
        raise NoLine("two faces are due")
    # A face is written as the net of this one side is.
    return (net_in(words[0])[0], net_in(words[1])[0])


# What is told of the kept net, each by its word.
QUESTIONS = {
    "net": net_text,
    "counts": counts_text,
    "turned": turned_text,
    "steps": steps_text,
    "swaps": swaps_text,
}


class Desk:
    """Has a bench of its own, and does on it what rows say."""

    def __init__(self):
        self.bench = Bench()

    def say(self, row):
        """Tell the answer to the row, once it is done."""
        if not isinstance(row, str):
            raise NoLine("a text is due")
        if row in QUESTIONS:
            question = QUESTIONS[row]
            return question(self.bench.net())
        self.carry_out(row)
        return DONE

    def carry_out(self, row):
        """Do the deed that the row says; refuse what says none."""
        # Without a blank nothing is left behind the word, and that is neither a net nor two faces.
        word, blank, rest = row.partition(" ")
        if row == "undo":
            self.bench.undo()
        elif word == "lay":
            self.bench.lay(net_in(rest))
        elif word == "join":
            self.bench.join(net_in(rest))
        elif word == "swap":
            self.bench.swap(swap_in(rest))
        else:
            raise NoLine("a row that the desk knows is due")
