"""Sheets: rows and quotients told in words, and answers to what is asked of them."""

from farquotient.blocks import block_of
from farquotient.equations import furthest
from farquotient.errors import BadRow, NoQuotient, Pole, TooShort
from farquotient.ladders import far_sum
from farquotient.polys import poly
from farquotient.primes import brought, furthest_by
from farquotient.quotients import agrees, quotient_of, row_of, value
from farquotient.roots import chain_of, roots_in_all
from farquotient.rules import least_rule
from farquotient.words import figures_of, is_name, number_written, numbers_read, word_read

MOST_OF_ROW = 24
MOST_OF_POLY = 9


def run(text):
    """The list of the answers to a sheet; refused at the first row that isn't so written or can't stand there."""
    known, asked = {}, []
    for place, line in enumerate(text.split("\n")):
        if line != "":
            words = line.split(" ")
            tells = words[0] in TELLING
            entry = told_read(words) if tells else asked_read(words, known)
            if entry is None:
                raise BadRow(place)
            if tells:
                known[words[1]] = (words[0], entry)
            else:
                asked.append((words[0], entry))
    return [answer_to(word, things) for word, things in asked]


def told_read(words):
    """The row or the quotient that words tell; None where they tell none."""
    if len(words) < 2 or not is_name(words[1]):
        return None
    reader = TELLING[words[0]]
    return reader(words[2:])


def row_read(words):
    """The row of a sheet's numbers."""
    return numbers_read(words, 1, MOST_OF_ROW)


def quotient_read(words):
    """The quotient of the numbers of a top, a colon, and those of a below."""
    if words.count(":") != 1:
        return None
    colon = words.index(":")
    top, below = numbers_read(words[:colon], 0, MOST_OF_POLY), numbers_read(words[colon + 1 :], 1, MOST_OF_POLY)
    if top is None or below is None:
        return None
    try:
        return quotient_of(poly(top), poly(below))
    except NoQuotient:
        return None


def asked_read(words, known):
    """The list of the things that words ask of; None where they can't ask so."""
    if words[0] not in ASKING:
        return None
    kinds = ASKING[words[0]]
    if len(words) != len(kinds) + 1:
        return None
    things = [thing_read(kind, word, known) for kind, word in zip(kinds, words[1:])]
    if None in things:
        return None
    return things


def thing_read(kind, word, known):
    """The thing of a kind that a word stands for: a row or a quotient by its name, all else as it is written."""
    if kind not in TELLING:
        return word_read(kind, word)
    told, thing = known.get(word, (None, None))
    if told != kind:
        return None
    return thing


def answer_to(word, things):
    """The text that answers what a word asks of things."""
    deed = ANSWERING[word]
    try:
        return deed(things)
    except TooShort:
        return "short"


def far_answer(things):
    row, m, n = things
    return quotient_written(furthest(row, m, n))


def agrees_answer(things):
    row, one = things
    return figures_of(agrees(row, one))


def block_answer(things):
    row, m, n = things
    block = block_of(row, m, n)
    if block is None:
        return "-"
    return " ".join(["-" if each is None else figures_of(each) for each in block])


def rule_answer(things):
    rule = least_rule(things[0])
    if rule is None:
        return "-"
    weights, begin = rule
    return " ".join([number_written(each) for each in weights] + [":", figures_of(begin)])


def value_answer(things):
    one, x = things
    try:
        return number_written(value(one, x))
    except Pole:
        return "pole"


def places_answer(things):
    one, many = things
    return " ".join([number_written(each) for each in row_of(one, many)] or ["-"])


def sum_answer(things):
    row, x = things
    return number_written(far_sum(row, x))


def poles_answer(things):
    one = things[0]
    return figures_of(roots_in_all(chain_of(one[1])))


def prime_answer(things):
    prime, row, m, n = things
    numbers = brought(prime, row)
    if numbers is None:
        return "-"
    top, below = furthest_by(prime, numbers, m, n)
    # A whole number is written as the number with the below 1 is.
    return quotient_written(([(each, 1) for each in top], [(each, 1) for each in below]))


def quotient_written(one):
    """The words of a quotient."""
    top, below = one
    return f"{poly_written(top)} : {poly_written(below)}"


def poly_written(one):
    """The words of a polynomial, 0 of nought."""
    return " ".join([number_written(each) for each in one] or ["0"])


TELLING = {"row": row_read, "quotient": quotient_read}
ASKING = {
    "far": ("row", "height", "height"),
    "agrees": ("row", "quotient"),
    "block": ("row", "height", "height"),
    "rule": ("row",),
    "value": ("quotient", "number"),
    "places": ("quotient", "places"),
    "sum": ("row", "number"),
    "poles": ("quotient",),
    "prime": ("prime", "row", "height", "height"),
}
ANSWERING = {
    "far": far_answer,
    "agrees": agrees_answer,
    "block": block_answer,
    "rule": rule_answer,
    "value": value_answer,
    "places": places_answer,
    "sum": sum_answer,
    "poles": poles_answer,
    "prime": prime_answer,
}
