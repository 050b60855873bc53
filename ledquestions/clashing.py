"""Clashes: which rows can't all be, and the papers that say why."""

from ledquestions.books import NEVER_BOTH
from ledquestions.errors import Clash
from ledquestions.shapes import is_side, is_tuple_of
from ledquestions.voids import is_void_paper, void_paper
from ledquestions.ways import is_number_of, is_turn_way, is_way, turn_ways_from, ways_from


def sort_at(row, side):
    """The sort of which the thing at the side is by the row."""
    return row[:1] if len(row) == 2 else (row[0], side)


def seen_by(word, row, side):
    """What two rows must have in common for a rule of the word: the thing at the side, or the pair seen from there."""
    terms = row[1:] if side == 0 else row[:0:-1]
    return terms[:1] if word == "apart" else terms


def is_seat(rows, row, side):
    """Whether these are one of the rows and a side of it; of anything."""
    return row in rows and is_side(side) and side < len(row) - 1


def is_void_clash(book, thing):
    """Whether a tuple of four is a clash paper by a void sort."""
    rules, rows = book
    word, row, side, paper = thing
    return word == "void" and is_seat(rows, row, side) and is_void_paper(rules, sort_at(row, side), paper)


def is_met_clash(book, thing):
    """Whether a tuple of eight is a clash paper by two rows that meet at an apart or an away rule."""
    rules, rows = book
    word, number, one, side, way, other, across, back = thing
    if word not in NEVER_BOTH or not is_number_of(rules, number) or rules[number][0] != word:
        return False
    if not is_seat(rows, one, side) or not is_seat(rows, other, across):
        return False
    if seen_by(word, one, side) != seen_by(word, other, across):
        return False
    judge = is_way if word == "apart" else is_turn_way
    first, second = rules[number][1:]
    return judge(rules, sort_at(one, side), first, way) and judge(rules, sort_at(other, across), second, back)


def is_clash(book, thing):
    """Whether it is a clash paper; of anything."""
    if is_tuple_of(thing, 4):
        return is_void_clash(book, thing)
    return is_tuple_of(thing, 8) and is_met_clash(book, thing)


def seats_of(rows):
    """All pairs of a row and a side of it."""
    return [(row, side) for row in rows for side in range(len(row) - 1)]


def void_clashes(rules, seats):
    """The clash papers by void sorts, one for each row and side of a void one."""
    papers = {}
    for row, side in seats:
        sort = sort_at(row, side)
        if sort not in papers:
            papers[sort] = void_paper(rules, sort)
    told = [("void", row, side, papers[sort_at(row, side)]) for row, side in seats]
    return [paper for paper in told if paper[3] is not None]


def seated(word, seats, ways, sort):
    """A dict of what is seen of the rows whose sorts lead there, each with a list of triples (row, side, way)."""
    found = {}
    for row, side in seats:
        there = ways[sort_at(row, side)]
        if sort in there:
            found.setdefault(seen_by(word, row, side), []).append((row, side, there[sort]))
    return found


def met_clashes(rules, seats):
    """The clash papers by two rows that meet at an apart or an away rule, one for each two rows and their sides."""
    sorts = list({sort_at(row, side): True for row, side in seats})
    # No turn way leads from a kind to a turn, so rows of kinds never meet at an away rule.
    ways = {
        "apart": {sort: ways_from(rules, sort) for sort in sorts},
        "away": {sort: turn_ways_from(rules, sort) for sort in sorts},
    }
    papers = []
    for number, (word, first, second) in enumerate(rules):
        if word in NEVER_BOTH:
            ones, others = seated(word, seats, ways[word], first), seated(word, seats, ways[word], second)
            papers.extend([
                (word, number) + one + other for seen in ones for one in ones[seen] for other in others.get(seen, [])
            ])
    return papers


def clash_papers(book):
    """Clash papers for all rows that alone can't be, and for all two that can't both be."""
    rules, rows = book
    seats = seats_of(rows)
    return void_clashes(rules, seats) + met_clashes(rules, seats)


def clash(book):
    """A clash paper, or None where the book doesn't clash."""
    papers = clash_papers(book)
    return papers[0] if papers else None


def rows_of(paper):
    """A rising tuple of the rows of which a clash paper speaks."""
    if paper[0] == "void":
        return (paper[1],)
    return tuple(sorted({paper[2], paper[5]}))


def clashes(book):
    """A rising tuple of all least clashing lots."""
    found = {rows_of(paper): True for paper in clash_papers(book)}
    least = [rows for rows in found if len(rows) == 1 or not any([(row,) in found for row in rows])]
    return tuple(sorted(least))


def look_clash(book):
    """True where the book doesn't clash; else Clash with a least clashing lot."""
    lots = clashes(book)
    if lots:
        raise Clash(lots[0])
    return True
