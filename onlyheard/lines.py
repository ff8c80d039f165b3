"""The lines of texts: statements apart from their blocks, and expressions."""

from onlyheard.forms import DEEPEST_EXPRESSION, is_digit, is_name

WORDS = ("wait", "open", "repeat", "leave", "home", "fail")
SIGNS = ("plus", "minus", "same", "less")


def block_lines(block, ahead):
    """The list of the lines of a block, each one with what stands ahead of it."""
    return [line for statement in block for line in _statement_lines(statement, ahead)]


def _statement_lines(statement, ahead):
    begin = ahead + _begin_text(statement)
    end = ahead + "end"
    below = ahead + "  "
    head = statement[0]
    if head == "if":
        return [begin, *block_lines(statement[2], below), ahead + "else", *block_lines(statement[3], below), end]
    if head == "repeat":
        return [begin, *block_lines(statement[1], below), end]
    if head == "wait":
        rows = [[f"{ahead}on {port} {name}", *block_lines(block, below)] for port, name, block in statement[1]]
        return [begin, *[line for row in rows for line in row], end]
    if head == "open":
        # The line "open" itself stands in the place of the first "or".
        rows = [[ahead + "or", *block_lines(block, below)] for block in statement[1]]
        return [begin, *[line for row in rows for line in row][1:], end]
    return [begin]


def _begin_text(statement):
    """The first line of a statement."""
    head = statement[0]
    if head == "set" or head == "tell":
        return f"{head} {statement[1]} {_expression_text(statement[2])}"
    if head == "hear":
        return f"hear {statement[1]} {statement[2]}"
    if head == "if":
        return f"if {_expression_text(statement[1])}"
    return head


def _expression_text(expression):
    if is_digit(expression):
        return str(expression)
    head = expression[0]
    if head == "name":
        return expression[1]
    if head == "not":
        return f"(not {_expression_text(expression[1])})"
    return f"({_expression_text(expression[1])} {head} {_expression_text(expression[2])})"


def read_begin(text):
    """The statement, apart from its blocks, of which this is the first line; None if of none."""
    head, _, rest = text.partition(" ")
    if head in WORDS:
        return (head,) if text == head else None
    if head == "hear":
        pair = read_names(rest)
        return None if pair is None else ("hear", *pair)
    if head == "if":
        test = _read_expression(rest)
        return None if test is None else ("if", test)
    name, _, more = rest.partition(" ")
    if (head != "set" and head != "tell") or not is_name(name):
        return None
    value = _read_expression(more)
    return None if value is None else (head, name, value)


def read_names(text):
    """The pair of the two names that are written there, None if there are no such ones."""
    words = text.split(" ")
    if len(words) != 2 or not all([is_name(word) for word in words]):
        return None
    return (words[0], words[1])


def _read_expression(text):
    # What does not stand apart as it should leaves an empty word, or one that is none.
    words = text.replace("(", "( ").replace(")", " )").split(" ")
    found = _read_words(words, 0, DEEPEST_EXPRESSION)
    if found is None or found[1] < len(words):
        return None
    return found[0]


def _read_words(words, index, deepest):
    """The pair of the expression that begins with a word, and the index behind it; None if there is none."""
    word = words[index] if index < len(words) else ""
    if len(word) == 1 and word.isdigit():
        return (int(word), index + 1)
    if is_name(word):
        return (("name", word), index + 1)
    if word != "(" or deepest == 1:
        return None
    if words[index + 1:index + 2] == ["not"]:
        part = _read_words(words, index + 2, deepest - 1)
        return None if part is None else _closed(words, ("not", part[0]), part[1])
    return _read_two(words, index + 1, deepest - 1)


def _read_two(words, index, deepest):
    """The same for two expressions with a sign between them."""
    one = _read_words(words, index, deepest)
    if one is None or one[1] == len(words) or words[one[1]] not in SIGNS:
        return None
    other = _read_words(words, one[1] + 1, deepest)
    return None if other is None else _closed(words, (words[one[1]], one[0], other[0]), other[1])


def _closed(words, expression, index):
    return (expression, index + 1) if words[index:index + 1] == [")"] else None
