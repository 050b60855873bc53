"""Books and questions as texts, and back."""

from ledquestions.books import is_row, is_rule, look_rows, look_rules
from ledquestions.errors import NoText
from ledquestions.questions import look_question
from ledquestions.shapes import is_name, is_whole

SIDES = "><"
FIGURES = 9


def sort_word(sort):
    """The word of a sort or a turn."""
    return sort[0] if len(sort) == 1 else sort[0] + SIDES[sort[1]]


def rule_line(rule):
    """A rule's line, without its end."""
    return " ".join(["rule", rule[0], sort_word(rule[1]), sort_word(rule[2])])


def row_line(row):
    """A row's line, without its end."""
    return " ".join(["row"] + list(row))


def book_text(book):
    """A book's text."""
    rules, rows = book
    lines = [rule_line(rule) for rule in rules] + [row_line(row) for row in rows]
    return "".join([line + "\n" for line in lines])


def read_sort(word):
    """What the word would tell as a sort's; whether it is one is left to see."""
    if word[-1:] in (">", "<"):
        return (word[:-1], SIDES.index(word[-1]))
    return (word,)


def read_rule(line):
    """The rule whose line it is, or None."""
    words = line.split(" ")
    if len(words) != 4 or words[0] != "rule":
        return None
    rule = (words[1], read_sort(words[2]), read_sort(words[3]))
    return rule if is_rule(rule) else None


def read_row(line):
    """The row whose line it is, or None."""
    words = line.split(" ")
    row = tuple(words[1:])
    return row if words[0] == "row" and is_row(row) else None


def read_book(text):
    """The book whose text it is; of anything: NoText with the first wrong line, then NoRules, NoRows."""
    if not isinstance(text, str):
        raise NoText(-1)
    # Behind the last line end stands no line; whatever stands there has no end.
    *lines, rest = text.split("\n")
    rules, rows = [], []
    for number, line in enumerate(lines):
        rule, row = read_rule(line), read_row(line)
        if row is not None:
            rows.append(row)
        elif rule is not None and len(rows) == 0:
            rules.append(rule)
        else:
            raise NoText(number)
    if rest != "":
        raise NoText(len(lines))
    look_rules(tuple(rules))
    look_rows(tuple(rows))
    return (tuple(rules), tuple(rows))


def term_word(term):
    """The word of a term."""
    return f"?{term}" if is_whole(term) else term


def atom_text(atom):
    """An atom's words."""
    return " ".join([atom[0]] + [term_word(term) for term in atom[1:]])


def question_text(question):
    """A question's text."""
    head, atoms = question
    words = [term_word(term) for term in head] + ["if"]
    return " ".join(words + [" and ".join([atom_text(atom) for atom in atoms])])


def is_figures(word):
    """Whether the word is a number of at most nine figures without a needless nought."""
    if not 1 <= len(word) <= FIGURES or not all(["0" <= sign <= "9" for sign in word]):
        return False
    return word == "0" or word[0] != "0"


def read_term(word):
    """The term whose word it is."""
    if is_name(word):
        return word
    if word[:1] == "?" and is_figures(word[1:]):
        return int(word[1:])
    raise NoText(0)


def read_atom(words):
    """The atom whose words they are."""
    if len(words) not in (2, 3) or not is_name(words[0]):
        raise NoText(0)
    return (words[0],) + tuple([read_term(word) for word in words[1:]])


def parted(words, between):
    """The lists of words between those that are this one."""
    parts = [[]]
    for word in words:
        if word == between:
            parts.append([])
        else:
            parts[-1].append(word)
    return parts


def read_question(text):
    """The question whose text it is; of anything: NoText with line 0, or -1 of no text, then NoQuestion."""
    if not isinstance(text, str):
        raise NoText(-1)
    sides = parted(text.split(" "), "if")
    if len(sides) != 2:
        raise NoText(0)
    head = tuple([read_term(word) for word in sides[0]])
    question = (head, tuple([read_atom(words) for words in parted(sides[1], "and")]))
    look_question(question)
    return question
