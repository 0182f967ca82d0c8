"""Programs of turns, checked and printed in one form."""

from turnfriends.reading import read_program
from turnfriends.values import lesser_first

SUM = 0
PRODUCT = 1
THING = 2


def check(text):
    """Raises the errors of a program, and tells nothing."""
    read_program(text)


def start_of(text):
    """The hall of a program's heading."""
    n, pairs, _ = read_program(text)
    return n, _in_order(pairs)


def _in_order(pairs):
    """The pairs with the lesser one in front, ascending."""
    return tuple(sorted([lesser_first(x, y) for x, y in pairs]))


def printed(text):
    """The program in its one form."""
    n, pairs, statements = read_program(text)
    shown = ["people", str(n), "friends"]
    shown.extend([f"{x}-{y}" for x, y in _in_order(pairs)])
    shown.extend([_statement_text(statement) for statement in statements])
    return " ".join(shown)


def _statement_text(statement):
    """A statement in its one form."""
    key = statement[0]
    if key == "let":
        return f"let {statement[1]} = {_sum_text(statement[2])}"
    first = f"{key} {_sum_text(statement[1])}"
    if key in ("turn", "say"):
        return first
    if key == "repeat":
        return f"{first} {_block_text(statement[2])}"
    if key == "when":
        return f"{first} {_blocks_text(statement[2], statement[3])}"
    second = _sum_text(statement[2])
    if key == "swap":
        return f"{first}, {second}"
    return f"{first}, {second} {_blocks_text(statement[3], statement[4])}"


def _block_text(statements):
    """A block in its one form."""
    return " ".join(["{"] + [_statement_text(statement) for statement in statements] + ["}"])


def _blocks_text(block, other):
    """A block and the one of its else; an empty one of these is left out."""
    if len(other) == 0:
        return _block_text(block)
    return f"{_block_text(block)} else {_block_text(other)}"


def _sum_text(part):
    """An E where no brackets must stand around it."""
    return _part_text(part, SUM)


def _part_text(part, least):
    """An E in its one form, in brackets if it binds less than it must where it stands."""
    if _binding(part) < least:
        return f"({_bare_text(part)})"
    return _bare_text(part)


def _binding(part):
    """How closely an E's parts are bound."""
    if part[0] in ("+", "-"):
        return SUM
    if part[0] in ("*", "mod"):
        return PRODUCT
    return THING


def _bare_text(part):
    """An E without brackets around it."""
    kind = part[0]
    if kind == "people":
        return "people"
    if kind in ("number", "name"):
        return str(part[1])
    if kind == "minus":
        return f"-{_part_text(part[1], THING)}"
    if kind == "circle":
        return f"circle({_sum_text(part[1])})"
    binding = _binding(part)
    # E's go from the left: what binds as closely needs brackets on the right side only.
    left = _part_text(part[1], binding)
    right = _part_text(part[2], binding + 1)
    return f"{left} {kind} {right}"
