"""Rules and wishes as texts."""

from rulerkeep.errors import BadText
from rulerkeep.rules import Rule
from rulerkeep.wishes import is_wish

GREATEST_READ = 10 ** 18
MOST_FIGURES = 19
PIECE = 10 ** 18
FIGURES_OF_A_PIECE = 18

# What stands for a word that writes no number: it is no life, no age and no distance either.
NO_NUMBER = -1


def show_number(number):
    """An integer from 0 in decimal, whatever its size."""
    # Python itself refuses to write a number of some thousand figures, and a life may be as great as that.
    pieces = []
    while number >= PIECE:
        number, low = divmod(number, PIECE)
        pieces.insert(0, str(low).zfill(FIGURES_OF_A_PIECE))
    return str(number) + "".join(pieces)


def read_number(word):
    """The integer from 0 to 10 ** 18 that a string writes, or NO_NUMBER."""
    # The length is asked first, since Python refuses to read very many figures, too.
    if len(word) > MOST_FIGURES or not word.isdecimal():
        return NO_NUMBER
    number = int(word)
    return number if number <= GREATEST_READ and str(number) == word else NO_NUMBER


def show_rule(rule):
    """The text of a rule."""
    return " ".join(["-" if life is None else show_number(life) for life in rule.lives])


def show_wish(wish):
    """The text of a wish."""
    return " ".join([show_number(age) + ":" + show_number(wished) for age, wished in wish])


def read_rule(text):
    """The rule that a text writes; raises BadText for any other value."""
    lives = tuple([None if word == "-" else read_number(word) for word in _words(text)])
    if not Rule.are_lives(lives):
        raise BadText(text)
    return Rule.of(lives)


def read_wish(text):
    """The wish that a text writes; raises BadText for any other value."""
    wish = tuple([_read_step(word) for word in _words(text)])
    if not is_wish(wish):
        raise BadText(text)
    return wish


def _words(value):
    """The words of a text, and none of any other value."""
    return value.split(" ") if isinstance(value, str) else []


def _read_step(word):
    """The step of a wish that a word writes, with NO_NUMBER in it if it writes none."""
    age, _, wished = word.partition(":")
    return (read_number(age), read_number(wished))
