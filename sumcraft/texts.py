"""Terms, forms and fractions as texts, written and read: each has just one text."""

from sumcraft.errors import NoTerm
from sumcraft.ratios import ratio
from sumcraft.terms import Term

FIGURES = "0123456789"
MOST_FIGURES = 60
BETWEEN_PARTS = " * "
BETWEEN_FORMS = ", "
LETTERS = ("n", "k", "")


def show_ratio(fraction):
    """The fraction's text."""
    if fraction[1] == 1:
        return str(fraction[0])
    return str(fraction[0]) + "/" + str(fraction[1])


def show_counted(number, letter):
    """A number, not 0, ahead of a letter, or by itself where the letter is the empty text."""
    if letter == "" or abs(number) > 1:
        return str(number) + letter
    return letter if number > 0 else "-" + letter


def show_form(form):
    """The form's text."""
    answer = ""
    for number, letter in zip(form, LETTERS):
        if number != 0:
            sign = "+" if number > 0 and answer != "" else ""
            answer += sign + show_counted(number, letter)
    return answer if answer != "" else "0"


def show_part(part):
    """The text of a part of a term."""
    if part[0] == "choose":
        return "C(" + show_form(part[1]) + BETWEEN_FORMS + show_form(part[2]) + ")"
    if part[0] == "weight":
        return "(" + show_form(part[1]) + ")"
    letter = "k" if part[0] == "power" else "n"
    return "[" + show_ratio(part[1]) + "]^" + letter


def show_term(term):
    """The term's text."""
    return BETWEEN_PARTS.join([show_part(part) for part in term.told()])


def read_whole(text):
    """The whole number of this text, at most sixty figures; None where it is written otherwise."""
    figures = text[1:] if text.startswith("-") else text
    if len(figures) == 0 or len(figures) > MOST_FIGURES:
        return None
    if not all([sign in FIGURES for sign in figures]):
        return None
    number = int(text)
    # What is read too freely, here and below, is not written back as it stood.
    return number if str(number) == text else None


def read_ratio(text):
    """The fraction of this text; None where it is written otherwise."""
    halves = text.partition("/")
    top = read_whole(halves[0])
    bottom = read_whole(halves[2]) if halves[1] != "" else 1
    if top is None or bottom is None or bottom == 0:
        return None
    fraction = ratio(top, bottom)
    return fraction if show_ratio(fraction) == text else None


def read_counted(text, letter):
    """The number that stands ahead of a letter, or by itself where the letter is the empty text."""
    if letter != "" and text == "":
        return 1
    if letter != "" and text == "-":
        return -1
    return read_whole(text)


def read_form(text):
    """The form of this text; None where it is written otherwise."""
    numbers = [0, 0, 0]
    for piece in text.replace("-", "+-").split("+"):
        # Nothing stands ahead of a sign with which the text begins.
        if piece == "":
            continue
        letter = piece[-1] if piece[-1] in LETTERS else ""
        number = read_counted(piece[:len(piece) - len(letter)], letter)
        if number is None:
            return None
        numbers[LETTERS.index(letter)] = number
    form = tuple(numbers)
    return form if show_form(form) == text else None


def read_choose(text):
    """The choose of its two forms' text; None where it is written otherwise."""
    forms = [read_form(piece) for piece in text.split(BETWEEN_FORMS)]
    if len(forms) != 2 or None in forms:
        return None
    return ("choose", forms[0], forms[1])


def read_part(text):
    """The part of this text, which may be one that no term has; None where it is written otherwise."""
    if text.startswith("C(") and text.endswith(")"):
        return read_choose(text[2:-1])
    part = None
    if text.startswith("(") and text.endswith(")"):
        part = ("weight", read_form(text[1:-1]))
    elif text.startswith("[") and text.endswith("]^k"):
        part = ("power", read_ratio(text[1:-3]))
    elif text.startswith("[") and text.endswith("]^n"):
        part = ("growth", read_ratio(text[1:-3]))
    return part if part is not None and part[1] is not None else None


def read_term(text):
    """The term of this text."""
    parts = [read_part(piece) for piece in text.split(BETWEEN_PARTS)]
    if None in parts:
        raise NoTerm("the text is not written as a term is")
    return Term(parts)
