"""How the words of a sheet are written: each reader tells what a word stands for, or None where it isn't so written."""

from farquotient.numbers import is_number, to_power

FIGURES = "0123456789"
LETTERS = "abcdefghijklmnopqrstuvwxyz"
MOST_FIGURES = 40
MOST_LETTERS = 8
GREATEST_HEIGHT = 23
MOST_PLACES = 40
GREATEST_PRIME = 997
PIECE_FIGURES = 60


def word_read(kind, word):
    """What a word of a kind stands for."""
    reader = READERS[kind]
    return reader(word)


def whole_read(word):
    """The whole number of a word: figures, at most forty, without a nought ahead but of 0 itself."""
    if not 1 <= len(word) <= MOST_FIGURES or not all([sign in FIGURES for sign in word]):
        return None
    if word[0] == "0" and word != "0":
        return None
    return int(word)


def up_to(greatest, word):
    """The whole number of a word that is at most greatest."""
    whole = whole_read(word)
    if whole is None or whole > greatest:
        return None
    return whole


def height_read(word):
    """The height of a word."""
    return up_to(GREATEST_HEIGHT, word)


def places_read(word):
    """How many places a word asks for."""
    return up_to(MOST_PLACES, word)


def prime_read(word):
    """The prime of a word."""
    whole = up_to(GREATEST_PRIME, word)
    if whole is None or not is_prime(whole):
        return None
    return whole


def is_prime(whole):
    """Whether a whole number is a prime."""
    return whole > 1 and all([whole % divisor > 0 for divisor in range(2, whole)])


def number_read(word):
    """The number of a word: maybe a minus, a top, and maybe a stroke and a below of two or more, in lowest terms."""
    plain = word.removeprefix("-")
    high, stroke, low = plain.partition("/")
    top, below = whole_read(high), 1
    if stroke:
        below = whole_read(low)
    if top is None or below is None or (stroke and below < 2) or not is_number((top, below)):
        return None
    if plain == word:
        return (top, below)
    if top == 0:
        return None
    return (-top, below)


def numbers_read(words, least, most):
    """The list of the numbers of words, from least to most of them."""
    if not least <= len(words) <= most:
        return None
    numbers = [number_read(word) for word in words]
    if None in numbers:
        return None
    return numbers


def is_name(word):
    """Whether a word is a name: one to eight small letters."""
    return 1 <= len(word) <= MOST_LETTERS and all([sign in LETTERS for sign in word])


def figures_of(whole):
    """The word of a whole number."""
    # Python refuses to write great numbers at once, so they are written piece by piece.
    step = to_power(10, PIECE_FIGURES)
    pieces, rest = [], abs(whole)
    while rest >= step:
        rest, piece = divmod(rest, step)
        pieces.append(str(piece).zfill(PIECE_FIGURES))
    pieces.append(str(rest))
    if whole < 0:
        pieces.append("-")
    return "".join(pieces[::-1])


def number_written(one):
    """The word of a number."""
    top, below = one
    if below == 1:
        return figures_of(top)
    return f"{figures_of(top)}/{figures_of(below)}"


READERS = {"height": height_read, "number": number_read, "places": places_read, "prime": prime_read}
