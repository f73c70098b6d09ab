"""A desk: keeps least machines by names, and is told rows."""

from spreadwords.apart import told_apart
from spreadwords.errors import NoName, NoRow
from spreadwords.forms import form
from spreadwords.joined import both, contrary, either
from spreadwords.least import least, parting_text
from spreadwords.lengths import least_length, most_length
from spreadwords.machines import look_fit, look_machine, takes
from spreadwords.machinetexts import read_machine, show_machine
from spreadwords.papers import paper_of
from spreadwords.parted import parting
from spreadwords.wished import machine_of
from spreadwords.wishes import depth_of, heads_in, words_in
from spreadwords.wishtexts import read_wish
from spreadwords.words import is_letters, is_word

MOST_IN_NAME = 6
MOST_IN_WORD = 30
MOST_IN_FORM = 20
MOST_UNLIKE = 3
MOST_FOR_APART = 3
MOST_PARTS = 10
MOST_DEPTH = 5
MOST_IN_WISHED_WORD = 3
MOST_IN_WISHED_WORDS = 6
NO_LETTERS = "."
ROW_BREAK = " ; "

# By a row's first word the kinds of what follows; a name that is kept is asked for, a text is all that is left.
ROWS = {
    "machine": ("name", "text"),
    "wish": ("name", "letters", "text"),
    "not": ("name", "kept"),
    "both": ("name", "kept", "kept"),
    "either": ("name", "kept", "kept"),
    "show": ("kept",),
    "takes": ("kept", "word"),
    "sort": ("kept",),
    "length": ("kept",),
    "same": ("kept", "kept"),
    "apart": ("figure", "kept", "kept"),
    "parts": ("word", "word"),
    "form": ("figure", "word"),
}


def shown_word(word):
    return word or NO_LETTERS


def plain_word(shown):
    return "" if shown == NO_LETTERS else shown


def is_name(word):
    return 1 <= len(word) <= MOST_IN_NAME and is_word(word)


def is_figure(word):
    return len(word) == 1 and "0" <= word <= "9"


def is_shown_word(word):
    return word != "" and len(word) <= MOST_IN_WORD and is_word(plain_word(word))


def stands(kind, word):
    if kind == "letters":
        return is_letters(word)
    if kind == "word":
        return is_shown_word(word)
    if kind == "figure":
        return is_figure(word)
    return kind == "text" or is_name(word)


def form_fits(k, word):
    unlike = len(set(word))
    return len(word) <= MOST_IN_FORM and unlike <= MOST_UNLIKE and k <= most_length(unlike)


def within_bounds(words):
    if words[0] == "parts":
        return len(set(plain_word(words[1]) + plain_word(words[2]))) <= MOST_UNLIKE
    if words[0] == "form":
        return form_fits(int(words[1]), plain_word(words[2]))
    if words[0] == "apart":
        return int(words[1]) <= MOST_FOR_APART
    return True


def row_words(row):
    kinds = ROWS.get(row.split(" ")[0])
    if kinds is None or "\n" in row:
        raise NoRow()
    # Words too many stand in the last one, blanks and all, so only a text can be made of them.
    words = row.split(" ", len(kinds))
    if len(words) <= len(kinds) or not all([stands(kind, word) for kind, word in zip(kinds, words[1:])]):
        raise NoRow()
    if not within_bounds(words):
        raise NoRow()
    return words


def kept_names(words):
    return [word for kind, word in zip(ROWS[words[0]], words[1:]) if kind == "kept"]


def look_wish(letters, wish):
    words = words_in(wish)
    counts = [len(word) for word in words]
    if len(heads_in(wish)) > MOST_PARTS or depth_of(wish) > MOST_DEPTH:
        raise NoRow()
    if max(counts, default=0) > MOST_IN_WISHED_WORD or sum(counts) > MOST_IN_WISHED_WORDS:
        raise NoRow()
    look_letters(letters, "".join(words))


def look_letters(letters, text):
    if not all([letter in letters for letter in text]):
        raise NoRow()


# What is made of a row's words and of the machines that it names.


def make_machine(words, machines):
    machine = read_machine(words[2].replace(ROW_BREAK, "\n"))
    look_machine(machine)
    return least(machine)


def make_wish(words, machines):
    wish = read_wish(words[3])
    look_wish(words[2], wish)
    return machine_of(words[2], wish)


def make_not(words, machines):
    return contrary(machines[0])


def make_both(words, machines):
    return both(machines[0], machines[1])


def make_either(words, machines):
    return either(machines[0], machines[1])


# What is told of them.


def tell_show(words, machines):
    return show_machine(machines[0]).replace("\n", ROW_BREAK)


def tell_takes(words, machines):
    text = plain_word(words[2])
    look_letters(machines[0][0], text)
    return "yes" if takes(machines[0], text) else "no"


def tell_sort(words, machines):
    return "spread" if paper_of(machines[0])[0] == "spread" else "other"


def tell_length(words, machines):
    length = least_length(machines[0])
    return "none" if length is None else str(length)


def tell_same(words, machines):
    text = parting_text(machines[0], machines[1])
    return "same" if text is None else shown_word(text)


def tell_apart(words, machines):
    k = int(words[1])
    look_fit(machines[0], machines[1])
    if k > most_length(len(machines[0][0])):
        raise NoRow()
    return told_apart(machines[0], machines[1], k)[0]


def tell_parts(words, machines):
    told = parting(plain_word(words[1]), plain_word(words[2]))
    return "same" if told is None else str(told[0]) + " " + told[1]


def tell_form(words, machines):
    return shown_word(form(plain_word(words[2]), int(words[1])))


MAKERS = {
    "machine": make_machine,
    "wish": make_wish,
    "not": make_not,
    "both": make_both,
    "either": make_either,
}

TELLERS = {
    "show": tell_show,
    "takes": tell_takes,
    "sort": tell_sort,
    "length": tell_length,
    "same": tell_same,
    "apart": tell_apart,
    "parts": tell_parts,
    "form": tell_form,
}


class Desk:
    def __init__(self):
        self.kept = {}

    def named(self, name):
        if name not in self.kept:
            raise NoName(name)
        return self.kept[name]

    def say(self, row):
        words = row_words(row)
        machines = [self.named(name) for name in kept_names(words)]
        if words[0] in MAKERS:
            make = MAKERS[words[0]]
            self.kept[words[1]] = make(words, machines)
            return "kept"
        tell = TELLERS[words[0]]
        return tell(words, machines)
