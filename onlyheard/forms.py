"""The forms of what a routine is made of: integers, names, expressions, statements."""

KEPT_WORDS = (
    "set", "tell", "hear", "wait", "on", "open", "or", "if", "else", "repeat", "leave", "home", "fail",
    "end", "plus", "minus", "same", "less", "not", "routine", "own", "over",
)
LONGEST_NAME = 8
LONGEST_BLOCK = 12
MOST_CHOICES = 4
DEEPEST_EXPRESSION = 5
DEEPEST_BLOCK = 12
LONGEST_PATH = 2 * DEEPEST_BLOCK - 1
PARTS = {"plus": 2, "minus": 2, "same": 2, "less": 2, "not": 1}


def is_integer(value):
    """Whether the value is an integer; a flag is none."""
    return isinstance(value, int) and not isinstance(value, bool)


def is_digit(value):
    """Whether the value is an integer from 0 to 9."""
    return is_integer(value) and 0 <= value <= 9


def is_name(value):
    """Whether the value is a name, of a variable, a port or a routine."""
    if not isinstance(value, str) or not 1 <= len(value) <= LONGEST_NAME:
        return False
    return value not in KEPT_WORDS and all(["a" <= sign <= "z" for sign in value])


def is_path(value):
    """Whether the value has the form of a path."""
    # Asked ahead of each look-up: there a flag would pass for an integer,
    # and a value of any size would have to be hashed.
    if not isinstance(value, tuple) or len(value) > LONGEST_PATH:
        return False
    return all([is_integer(step) for step in value])


def is_block(value):
    """Whether the value is a block, apart from the items in it."""
    return isinstance(value, tuple) and len(value) <= LONGEST_BLOCK


def head_of(value):
    """The word with which a tuple begins, the empty string for all else."""
    if isinstance(value, tuple) and len(value) > 0 and isinstance(value[0], str):
        return value[0]
    return ""


def is_expression(value, deepest=DEEPEST_EXPRESSION):
    """Whether the value is an expression that is not deeper than told."""
    if is_digit(value):
        return True
    head = head_of(value)
    if head == "name":
        return len(value) == 2 and is_name(value[1])
    if deepest == 1 or head not in PARTS or len(value) != 1 + PARTS[head]:
        return False
    return all([is_expression(part, deepest - 1) for part in value[1:]])


def is_statement(value):
    """Whether the value is a statement, apart from the items of the blocks in it."""
    head = head_of(value)
    if head not in CHECKS:
        return False
    check = CHECKS[head]
    return check(value)


def _is_set_or_tell(value):
    return len(value) == 3 and is_name(value[1]) and is_expression(value[2])


def _is_hear(value):
    return len(value) == 3 and is_name(value[1]) and is_name(value[2])


def _is_wait(value):
    if len(value) != 2 or not _is_choice(value[1]):
        return False
    rows = value[1]
    return all([_is_row(row) for row in rows]) and len({row[0] for row in rows}) == len(rows)


def _is_row(value):
    if not isinstance(value, tuple) or len(value) != 3:
        return False
    return is_name(value[0]) and is_name(value[1]) and is_block(value[2])


def _is_open(value):
    return len(value) == 2 and _is_choice(value[1]) and all([is_block(block) for block in value[1]])


def _is_choice(value):
    return isinstance(value, tuple) and 1 <= len(value) <= MOST_CHOICES


def _is_if(value):
    return len(value) == 4 and is_expression(value[1]) and is_block(value[2]) and is_block(value[3])


def _is_repeat(value):
    return len(value) == 2 and is_block(value[1])


def _is_word(value):
    return len(value) == 1


CHECKS = {
    "set": _is_set_or_tell, "tell": _is_set_or_tell, "hear": _is_hear, "wait": _is_wait,
    "open": _is_open, "if": _is_if, "repeat": _is_repeat,
    "leave": _is_word, "home": _is_word, "fail": _is_word,
}


def blocks_of(statement):
    """The list of the blocks in a statement, in the order of their numbers."""
    head = statement[0]
    if head == "if":
        return [statement[2], statement[3]]
    if head == "repeat":
        return [statement[1]]
    if head == "open":
        return list(statement[1])
    if head == "wait":
        return [row[2] for row in statement[1]]
    return []


def with_blocks(statement, blocks):
    """The statement with other blocks in the places of its own ones; an open line may get fewer."""
    head = statement[0]
    if head == "if":
        return ("if", statement[1], blocks[0], blocks[1])
    if head == "repeat":
        return ("repeat", blocks[0])
    if head == "open":
        return ("open", tuple(blocks))
    if head == "wait":
        return ("wait", tuple([(row[0], row[1], block) for row, block in zip(statement[1], blocks)]))
    return statement


def names_of(statement):
    """The list of the names in a statement itself, not in the blocks in it."""
    head = statement[0]
    if head == "set":
        return [statement[1], *_names_in(statement[2])]
    if head == "tell":
        return _names_in(statement[2])
    if head == "if":
        return _names_in(statement[1])
    if head == "hear":
        return [statement[2]]
    if head == "wait":
        return [row[1] for row in statement[1]]
    return []


def _names_in(expression):
    if is_digit(expression):
        return []
    if expression[0] == "name":
        return [expression[1]]
    return [name for part in expression[1:] for name in _names_in(part)]


def ports_of(statement):
    """The list of the ports of a statement itself, those of a wait in the order of its rows."""
    head = statement[0]
    if head == "tell" or head == "hear":
        return [statement[1]]
    if head == "wait":
        return [row[0] for row in statement[1]]
    return []
