"""Slow and plain ways to judge chains and answer papers, and to keep a desk, each straight from the words."""

from ledquestions import errors
from ledquestions.answering import answers
from ledquestions.books import look_rows, look_rules, look_row, look_rule, things_of
from ledquestions.clashing import clashes
from ledquestions.questions import look_question
from tests.helpers import refusal
from tests.lead_oracles import named_heads
from tests.oracles import become, is_so, unknowns_in


def is_right_name(thing):
    if type(thing) is not str or thing in ("if", "and"):
        return False
    return 0 < len(thing) < 9 and thing.isascii() and thing.isalpha() and thing.islower()


def is_right_line(line):
    if type(line) is not tuple or len(line) not in (2, 3) or not is_right_name(line[0]):
        return False
    return all(is_right_name(part) or (type(part) is int and part >= 0) for part in line[1:])


def comes_of(rule, ahead, line, stood):
    """Whether the line comes by the rule of one ahead of it; stood has all terms of lines ahead."""
    word, first, second = rule

    def seen(sort, told):
        if told[0] != sort[0] or len(told) != len(sort) + 1:
            return None
        return {(): told[1:], (0,): told[1:], (1,): told[:0:-1]}[sort[1:]]

    one, other = seen(first, ahead), seen(second, line)
    if one is None or other is None:
        return False
    if word == "along":
        return one == other
    if word == "within":
        return one[0] == other[0] and (len(other) == 1 or (type(other[1]) is int and other[1] not in stood))
    return False


def is_right_chain(book, question, answer, thing):
    rules, rows = book
    if type(thing) is not tuple or len(thing) != 2 or type(thing[0]) is not tuple or type(thing[1]) is not tuple:
        return False
    lines, stood = [], set()
    for pair in thing[0]:
        if type(pair) is not tuple or len(pair) != 2 or not is_right_line(pair[0]) or type(pair[1]) is not tuple:
            return False
        line, why = pair
        if why == ():
            if line not in rows:
                return False
        elif len(why) != 2 or any(type(part) is not int for part in why):
            return False
        elif why[0] not in range(len(rules)) or why[1] not in range(len(lines)):
            return False
        elif not comes_of(rules[why[0]], lines[why[1]], line, stood):
            return False
        lines.append(line)
        stood |= set(line[1:])
    if any(type(pair) is not tuple or len(pair) != 2 or type(pair[0]) is not int for pair in thing[1]):
        return False
    if [pair[0] for pair in thing[1]] != unknowns_in(question):
        return False
    if any(type(pair[1]) not in (int, str) for pair in thing[1]):
        return False
    head, atoms = become(question, dict(thing[1]))
    if any(type(part) is not str for part in head) or repr(head) != repr(answer):
        return False
    return set(atoms) <= set(lines)


def is_right_paper_of(book, question, thing):
    """Whether it is an answer paper."""
    if type(thing) is not tuple or len(thing) != 2 or type(thing[0]) is not tuple or type(thing[1]) is not tuple:
        return False
    for pair in thing[0]:
        if type(pair) is not tuple or len(pair) != 2 or not is_right_chain(book, question, *pair):
            return False
    told = [pair[0] for pair in thing[0]]
    lines = thing[1]
    if told != sorted(set(told)) or not all(map(is_right_line, lines)) or len(set(lines)) != len(lines):
        return False
    if not set(book[1]) <= set(lines) or not all(is_so(lines, rule) for rule in book[0]):
        return False
    return set(told) == named_heads(lines, question)


# A desk that is kept by telling all anew each time.

class SlowDesk:
    def __init__(self, rules=(), rows=()):
        self.now = (rules, rows, {})
        self.past = []
        self.lines = []

    def told(self):
        rules, rows, asked = self.now
        return {name: answers((rules, rows), question) for name, question in asked.items()}

    def look(self, rules, rows, asked):
        """Refuse where it clashes or a least lot is too great."""
        lots = clashes((rules, rows))
        if lots:
            raise errors.Clash(lots[0])
        for name in asked:
            answers((rules, rows), asked[name])

    def step(self, now, word, things):
        """The state behind a deed."""
        rules, rows, asked = now
        asked = dict(asked)
        if word == "put":
            look_row(things[0])
            if things[0] in rows:
                raise errors.Twice("")
            rows = tuple(sorted(rows + things))
            if len(rows) > 40 or len(things_of(rows)) > 12:
                raise errors.TooGreat("")
        elif word == "drop":
            if repr(things[0]) not in map(repr, rows):
                raise errors.Missing("")
            rows = tuple(row for row in rows if row != things[0])
        elif word == "learn":
            look_rule(things[0])
            if things[0] in rules:
                raise errors.Twice("")
            rules += things
            if refusal(look_rules, rules) is not None:
                raise errors.TooGreat("")
        elif word == "forget":
            if repr(things[0]) not in map(repr, rules):
                raise errors.Missing("")
            rules = tuple(rule for rule in rules if rule != things[0])
        elif word == "ask":
            if not is_right_name(things[0]):
                raise errors.NoName("")
            if things[0] in asked:
                raise errors.Twice("")
            look_question(things[1])
            if len(unknowns_in(things[1])) > 4:
                raise errors.NoQuestion("")
            if len(asked) == 8:
                raise errors.TooGreat("")
            asked[things[0]] = things[1]
        else:
            if type(things[0]) is not str or things[0] not in asked:
                raise errors.Missing("")
            del asked[things[0]]
        assert refusal(look_rows, rows) is None
        self.look(rules, rows, asked)
        return rules, rows, asked

    def noted(self, word, call):
        """Do it, with both its ends in the log."""
        self.lines.append(("in", word))
        try:
            if word != "back" and len(self.past) == 100:
                raise errors.Long("")
            told = call()
        except errors.AskError:
            self.lines.append(("out", word, False))
            raise
        self.lines.append(("out", word, True))
        return told

    def changed(self, call):
        """What the call changes in the answers."""
        before = self.told()
        kept = self.now
        self.now = call()
        after = self.told()
        if kept is not self.now:
            self.past.append(kept)
        return self.differing(before, after)

    def differing(self, before, after):
        found = []
        for name in sorted(set(before) | set(after)):
            old, new = set(before.get(name, ())), set(after.get(name, ()))
            if old != new:
                found.append((name, tuple(sorted(new - old)), tuple(sorted(old - new))))
        return tuple(found)

    def do(self, word, *things):
        if word == "batch":
            return self.noted(word, lambda: self.changed(lambda: self.all_of(*things)))
        if word == "back":
            return self.noted(word, self.taken_back)
        return self.noted(word, lambda: self.changed(lambda: self.step(self.now, word, things)))

    def taken_back(self):
        if not self.past:
            raise errors.Nothing("")
        before = self.told()
        self.now = self.past.pop()
        return self.differing(before, self.told())

    def all_of(self, deeds):
        if type(deeds) is not tuple or len(deeds) > 20:
            raise errors.NoDeeds("")
        now = tuple(self.now)
        many = {"put": 2, "drop": 2, "learn": 2, "forget": 2, "ask": 3, "unask": 2}
        for number, deed in enumerate(deeds):
            try:
                if type(deed) is not tuple or not deed or type(deed[0]) is not str or many.get(deed[0]) != len(deed):
                    raise errors.NoDeed("")
                self.lines.append(("in", deed[0]))
                try:
                    now = self.step(now, deed[0], deed[1:])
                except errors.AskError:
                    self.lines.append(("out", deed[0], False))
                    raise
                self.lines.append(("out", deed[0], True))
            except errors.AskError as error:
                raise errors.Broken(number) from error
        return tuple(now) if deeds else (now[0], now[1], dict(now[2]))
