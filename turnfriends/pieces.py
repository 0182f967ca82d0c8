"""The pieces of a program's text: its words, numbers and signs.

A piece is told as (kind, told, place): the kind is "word", "number", "sign", "wrong" for
what is none of these, or "end"; told is the word or sign itself, or the integer; place
is the index of its first sign in the text.
"""

LETTERS = "abcdefghijklmnopqrstuvwxyz"
FIGURES = "0123456789"
SIGNS = "{}(),=-+*"
BLANKS = " \n"
MOST_LETTERS = 8
MOST_FIGURES = 2


def pieces_of(text):
    """The list of the pieces of a text, in order, the end of the text as the last one."""
    found = []
    place = 0
    while place < len(text):
        behind = _end_of_piece(text, place)
        if text[place] not in BLANKS:
            kind, told = _piece(text[place:behind])
            found.append((kind, told, place))
        place = behind
    found.append(("end", "", len(text)))
    return found


def _end_of_piece(text, place):
    """The index behind the letters, the figures or the one other sign that stand at a place."""
    for signs in (LETTERS, FIGURES):
        if text[place] in signs:
            return _end_of_run(text, place, signs)
    return place + 1


def _end_of_run(text, place, signs):
    """The index behind the run of some signs that begins at a place."""
    behind = place
    while behind < len(text) and text[behind] in signs:
        behind += 1
    return behind


def _piece(written):
    """The kind of a piece, and what it tells."""
    if written[0] in LETTERS and len(written) <= MOST_LETTERS:
        return "word", written
    if written[0] in FIGURES and _is_number(written):
        return "number", int(written)
    if written in SIGNS:
        return "sign", written
    return "wrong", ""


def _is_number(figures):
    """Whether figures are a number up to 99 without needless zeros."""
    return len(figures) <= MOST_FIGURES and (figures[0] != "0" or len(figures) == 1)
