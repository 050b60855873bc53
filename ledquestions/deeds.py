"""The deeds of a desk, each from a state to the state behind it.

A state is a tuple (rules, rows, standing): standing has, rising by their names, a tuple (name, question, led, told)
for each standing question, led the questions to which the rules lead it and told its sure answers.
"""

from ledquestions.answering import with_row
from ledquestions.books import are_rows, has_room, is_rule, look_row, look_rule
from ledquestions.bounds import ASKED
from ledquestions.clashing import look_clash
from ledquestions.errors import Missing, NoDeed, NoDeeds, NoName, NoQuestion, TooGreat, Twice
from ledquestions.lots import led_questions
from ledquestions.plain import plain_answers
from ledquestions.questions import is_question, is_short
from ledquestions.shapes import is_name
from ledquestions.ways import WAY_WORDS

BATCH = 20


def told_anew(rows, standing):
    """The standing questions with their answers in these rows."""
    return tuple([(name, question, led, plain_answers(rows, led)) for name, question, led, told in standing])


def led_anew(rules, rows, standing):
    """The standing questions, led by these rules, with their answers in the rows; TooMany."""
    return told_anew(rows, [(entry[0], entry[1], led_questions(rules, entry[1]), ()) for entry in standing])


def put(state, row):
    """The state with a row more."""
    rules, rows, standing = state
    look_row(row)
    if row in rows:
        raise Twice("this row is there")
    more = with_row(rows, row)
    if not are_rows(more):
        raise TooGreat("too many rows or things")
    look_clash((rules, more))
    return (rules, more, told_anew(more, standing))


def drop(state, row):
    """The state without a row."""
    rules, rows, standing = state
    if row not in rows:
        raise Missing("no such row")
    fewer = tuple([other for other in rows if other != row])
    return (rules, fewer, told_anew(fewer, standing))


def with_rules(state, rules, rule):
    """The state with other rules, among which this one is new or from which it has gone."""
    rows, standing = state[1:]
    # By the other words nothing is led.
    if rule[0] in WAY_WORDS:
        standing = led_anew(rules, rows, standing)
    return (rules, rows, standing)


def learn(state, rule):
    """The state with a rule more, behind the others."""
    rules, rows, standing = state
    look_rule(rule)
    if rule in rules:
        raise Twice("this rule is there")
    more = rules + (rule,)
    if not has_room(more):
        raise TooGreat("too many rules or turns by which partners are wanted")
    look_clash((more, rows))
    return with_rules(state, more, rule)


def forget(state, rule):
    """The state without a rule."""
    rules = state[0]
    # A truth within would be equal to a side, so what is no rule is looked for nowhere.
    if not is_rule(rule) or rule not in rules:
        raise Missing("no such rule")
    return with_rules(state, tuple([other for other in rules if other != rule]), rule)


def asked_as(state, name):
    """The entry that stands under the name, which may be anything; None where there's none."""
    found = [entry for entry in state[2] if entry[0] == name]
    return found[0] if found else None


def ask(state, name, question):
    """The state with a standing question more."""
    rules, rows, standing = state
    if not is_name(name):
        raise NoName("no name")
    if asked_as(state, name) is not None:
        raise Twice("this name is taken")
    if not is_question(question) or not is_short(question):
        raise NoQuestion("no short question")
    if len(standing) >= ASKED:
        raise TooGreat("too many questions")
    entry = led_anew(rules, rows, [(name, question, (), ())])
    return (rules, rows, tuple(sorted(standing + entry, key=lambda one: one[0])))


def unask(state, name):
    """The state without a standing question."""
    rules, rows, standing = state
    if asked_as(state, name) is None:
        raise Missing("no such name")
    return (rules, rows, tuple([entry for entry in standing if entry[0] != name]))


DEEDS_BY_WORD = {"put": put, "drop": drop, "learn": learn, "forget": forget, "ask": ask, "unask": unask}
HANDED = {"put": 1, "drop": 1, "learn": 1, "forget": 1, "ask": 2, "unask": 1}


def done(state, word, things):
    """The state behind the deed of this word, handed these things; its refusals."""
    deed = DEEDS_BY_WORD[word]
    return deed(state, *things)


def look_deeds(thing):
    """True of a tuple of so few things that they may be a batch; else NoDeeds."""
    if not isinstance(thing, tuple) or len(thing) > BATCH:
        raise NoDeeds("no tuple of so few deeds")
    return True


def look_deed(thing):
    """True of a tuple of a deed's word and as many things as it's handed; else NoDeed."""
    if not isinstance(thing, tuple) or len(thing) == 0 or not isinstance(thing[0], str):
        raise NoDeed("no tuple of a word and what it's handed")
    if thing[0] not in HANDED or len(thing) != HANDED[thing[0]] + 1:
        raise NoDeed("no deed of such a word and so many things")
    return True


def told_by(state):
    """A dict of the names of a state's standing questions, each with a dict whose keys are its answers, rising."""
    return {name: {answer: True for answer in told} for name, question, led, told in state[2]}


def less(ones, others):
    """A tuple of the keys of one dict, in their order, that are none of the other."""
    return tuple([answer for answer in ones if answer not in others])


def changes(before, after):
    """A rising tuple of (name, gained, lost) for each name whose answers are others; none where it isn't asked."""
    olds, news = told_by(before), told_by(after)
    found = []
    for name in sorted(set(list(olds) + list(news))):
        old, new = olds.get(name, {}), news.get(name, {})
        gained, lost = less(new, old), less(old, new)
        if gained or lost:
            found.append((name, gained, lost))
    return tuple(found)
