"""A desk: benches kept by names, and rows of words about them, answered with texts."""

from falsesums.bench import Bench
from falsesums.errors import NoName, NoRow, NoWorth
from falsesums.fillings import fillings
from falsesums.leasts import least
from falsesums.papers import worth_of
from falsesums.sheets import read, read_wish, shown
from falsesums.sidedtelling import least_sided
from falsesums.sums import Sum
from falsesums.texts import FIGURES, is_name, read_sum, shown_sum

MOST_DEGREE_FIGURES = 3
# What stands for a line feed where a sheet is one row.
ROW_END = "; "
NOTHING = "-"
# The parts that stand behind the first word of a row.
FORMS = {"sheet": ("name", "text"), "drop": ("name",), "names": (), "shown": ("name",), "wish": ("name", "text"),
         "back": ("name",), "fillings": ("name",), "plain": ("name", "degree"), "sided": ("name", "degree"),
         "least": ("name",), "sidedleast": ("name",), "worth": ("name", "degree", "text")}


def is_degree_word(word):
    """Whether a word is one to three figures without a nought ahead."""
    if not 1 <= len(word) <= MOST_DEGREE_FIGURES or not all([sign in FIGURES for sign in word]):
        return False
    return word == "0" or word[0] != "0"


def fits(kind, word):
    """Whether a word of a row is what should stand there."""
    if kind == "name":
        return is_name(word)
    return is_degree_word(word) if kind == "degree" else len(word) > 0


def read_row(row):
    """The first word of a row, and a list of the parts behind it."""
    if not isinstance(row, str) or "\n" in row:
        raise NoRow("a row is a text without line feeds")
    word = row.split(" ")[0]
    if word not in FORMS:
        raise NoRow("no row begins like this")
    form = FORMS[word]
    # No more than the form has: a text at the end keeps its blanks, and what else has some fits nothing.
    first, *parts = row.split(" ", len(form))
    if first != word or len(parts) != len(form) or not all([fits(kind, part) for kind, part in zip(form, parts)]):
        raise NoRow("a row has just its words, parted by one blank each")
    return (word, parts)


def shown_filling(filling):
    """The 0 and 1 of a filling without blanks."""
    return "".join([str(bit) for bit in filling])


def shown_least(found):
    """What is told of a least degree, without the papers."""
    if found[0] == "filled":
        return f"filled {shown_filling(found[1])}"
    return f"least {found[1]}"


def answer_sheet(benches, parts):
    """Keeps the bench of a sheet."""
    name, text = parts
    names, system = read(text.replace(ROW_END, "\n"))
    benches[name] = (names, Bench(system))
    return "ok"


def answer_drop(benches, parts):
    """Keeps a bench no more."""
    del benches[parts[0]]
    return "ok"


def answer_names(benches, parts):
    """All names by which benches are kept."""
    return " ".join(sorted(benches)) if benches else NOTHING


def answer_shown(benches, parts):
    """The sheet of a bench as it is now."""
    names, bench = benches[parts[0]]
    return shown((names, bench.system())).replace("\n", ROW_END)


def answer_wish(benches, parts):
    """Puts in a wish."""
    name, row = parts
    names, bench = benches[name]
    wish, upper = read_wish(bench.system().field(), names, row)
    bench.put(wish, upper)
    return "ok"


def answer_back(benches, parts):
    """Takes a wish back."""
    names, bench = benches[parts[0]]
    bench.back()
    return "ok"


def answer_fillings(benches, parts):
    """All all round fillings."""
    names, bench = benches[parts[0]]
    found = fillings(bench.system(), True)
    return " ".join([shown_filling(filling) for filling in found]) if found else NOTHING


def answer_asked(benches, parts, sided):
    """Which paper is there, and whether it was kept."""
    name, degree = parts
    names, bench = benches[name]
    word, paper, kept = bench.ask(int(degree), sided)
    ending = "kept" if kept else "new"
    return f"{word} {ending}"


def answer_plain(benches, parts):
    """Which paper of the first kind is there."""
    return answer_asked(benches, parts, False)


def answer_sided(benches, parts):
    """Which paper of the second kind is there."""
    return answer_asked(benches, parts, True)


def answer_least(benches, parts):
    """The least degree, or the first filling."""
    names, bench = benches[parts[0]]
    return shown_least(least(bench.system()))


def answer_sidedleast(benches, parts):
    """The least sided degree, or the first all round filling."""
    names, bench = benches[parts[0]]
    return shown_least(least_sided(bench.system()))


def answer_worth(benches, parts):
    """What a sum is worth by the worths told."""
    name, degree, text = parts
    names, bench = benches[name]
    # A twin is asked: it is taken only where the text is no refusal, which stands behind those of the degree.
    asked = bench.twin()
    word, paper, kept = asked.ask(int(degree))
    one = read_sum(bench.system().field(), names, text)
    benches[name] = (names, asked)
    if word == "showing":
        return NOTHING
    try:
        number = worth_of(paper, one)
    except NoWorth:
        return NOTHING
    return shown_sum(names, Sum(one.field(), [((), number)]))


ANSWERS = {"sheet": answer_sheet, "drop": answer_drop, "names": answer_names, "shown": answer_shown,
           "wish": answer_wish, "back": answer_back, "fillings": answer_fillings, "plain": answer_plain,
           "sided": answer_sided, "least": answer_least, "sidedleast": answer_sidedleast, "worth": answer_worth}


class Desk:
    """Keeps benches, with the names of their places, by names."""

    def __init__(self):
        self.benches = {}

    def __len__(self):
        return len(self.benches)

    def say(self, row):
        """The answer to a row."""
        word, parts = read_row(row)
        if parts and word != "sheet" and parts[0] not in self.benches:
            raise NoName(parts[0])
        action = ANSWERS[word]
        return action(self.benches, parts)
