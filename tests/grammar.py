"""Another road to the place that InvalidText tells: a stack of what must still come.

What stands on top of the stack is either a piece that must come, or a word of the
grammar below, for which a right side is put: the one of which one first piece comes.
"""

import re

MOST_SIGNS, MOST_PIECES, MOST_BRACKETS = 2000, 60, 30
KEYS = "people friends turn swap if when else repeat let say circle mod".split()
PIECE = re.compile(r"([a-z]+)|([0-9]+)|([{}(),=+*-])|[ \n]+|(.)", re.DOTALL)

# For each word of the grammar: first pieces and right sides; "" goes with anything else.
GRAMMAR = {
    "PROGRAM": {"people": "people SMALL friends PAIRS STATEMENTS END"},
    "PAIRS": {"NUMBER": "NUMBER - NUMBER PAIRS", "": ""},
    "STATEMENTS": {"turn swap if when repeat let say": "STATEMENT STATEMENTS", "": ""},
    "STATEMENT": {
        "turn": "turn E", "say": "say E", "swap": "swap E , E", "if": "if E , E BLOCK ELSE", "when": "when E BLOCK ELSE",
        "repeat": "repeat E BLOCK", "let": "let NAME = E",
    },
    "BLOCK": {"{": "{ STATEMENTS }"},
    "ELSE": {"else": "else BLOCK", "": ""},
    "E": {"": "BEGIN SUM STOP"},
    "SUM": {"": "PRODUCT SUMS"},
    "SUMS": {"+": "+ PRODUCT SUMS", "-": "- PRODUCT SUMS", "": ""},
    "PRODUCT": {"": "THING PRODUCTS"},
    "PRODUCTS": {"*": "* THING PRODUCTS", "mod": "mod THING PRODUCTS", "": ""},
    "THING": {
        "NUMBER": "NUMBER", "NAME": "NAME", "people": "people", "circle": "circle ( SUM )", "(": "( SUM )", "-": "- THING",
    },
}


def pieces(text):
    """Pairs of what kind of piece stands there, and its place."""
    for found in PIECE.finditer(text):
        word, number, sign, wrong = found.groups()
        if word:
            kind = word if word in KEYS else "NAME" if len(word) <= 8 else "WRONG"
        elif number:
            kind = "SMALL" if number in list("12345678") else "NUMBER"
            if len(number) > 2 or number != str(int(number)):
                kind = "WRONG"
        elif sign or wrong:
            kind = sign or "WRONG"
        else:
            continue
        yield kind, found.start()
    yield "END", len(text)


def fits(kind, wanted):
    return kind in wanted.split() or kind == "SMALL" and wanted == "NUMBER"


def place_of_error(text):
    """The place that InvalidText tells, None for a text with the form of a program."""
    if len(text) > MOST_SIGNS:
        return MOST_SIGNS
    stack, brackets, left = ["PROGRAM"], 0, None
    for kind, place in pieces(text):
        while stack and (stack[-1] in GRAMMAR or stack[-1] in ("BEGIN", "STOP")):
            top = stack.pop()
            if top in ("BEGIN", "STOP"):
                left = MOST_PIECES if top == "BEGIN" else None
                continue
            sides = [side for first, side in GRAMMAR[top].items() if first and fits(kind, first)]
            if not sides and "" not in GRAMMAR[top]:
                return place
            stack.extend(reversed((sides or [GRAMMAR[top][""]])[0].split()))
        if not fits(kind, stack.pop()):
            return place
        brackets += (kind in ("{", "(")) - (kind in ("}", ")"))
        if brackets > MOST_BRACKETS or left == 0:
            return place
        left = None if left is None else left - 1
    return None
