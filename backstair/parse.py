"""The text of a program."""

from backstair.errors import BadText
from backstair.lang import CALLS, CHANGES, OPERATORS, RELATIONS, Program, is_name

# For each statement with bodies: the ends of its first line and its last two lines' beginnings.
FORMS = {"if": ("then", "else", "fi"), "from": ("do", "loop", "until")}


def triple_text(value):
    """Return the text of an expression or a condition."""
    if isinstance(value, tuple):
        word, one, two = value
        return f"{one} {word} {two}"
    return str(value)


def statement_lines(statement):
    """Return the lines of a statement."""
    word = statement[0]
    if word in CHANGES:
        return [f"{statement[1]} {word} {triple_text(statement[2])}"]
    if word not in FORMS:
        return [" ".join(statement)]
    opening, middle, closing = FORMS[word]
    lines = [f"{word} {triple_text(statement[1])} {opening}"]
    lines += body_lines(statement[2])
    lines.append(middle)
    lines += body_lines(statement[3])
    lines.append(f"{closing} {triple_text(statement[4])}")
    return lines


def body_lines(body):
    """Return the lines of a body."""
    lines = []
    for statement in body:
        lines += statement_lines(statement)
    return lines


def text_of(program):
    """Return the text of a program."""
    lines = [f"width {program.width}", "vars " + " ".join(program.variables)]
    for name in program.names:
        lines.append(f"proc {name}")
        lines += body_lines(program.body(name))
        lines.append("end")
    return "".join([f"{line}\n" for line in lines])


def number_of(word):
    """Return the number that a word is, or None; numbers of more than nine digits are cut."""
    if not word.isascii() or not word.isdigit() or (word[0] == "0" and word != "0"):
        return None
    # Any number of more than nine digits is out of every range, and so is its beginning.
    return int(word[:9])


def atom_of(word):
    """Return the atom that a word is, or None."""
    if is_name(word):
        return word
    return number_of(word)


def triple_of(words, known):
    """Return the tuple that an atom, one of the known words and an atom are, or None."""
    if len(words) != 3 or words[1] not in known:
        return None
    one = atom_of(words[0])
    two = atom_of(words[2])
    if one is None or two is None:
        return None
    return (words[1], one, two)


def expression_of(words):
    """Return the expression that words are, or None."""
    if len(words) == 1:
        return atom_of(words[0])
    return triple_of(words, OPERATORS)


def simple_of(words):
    """Return the statement without bodies that the words of a line are, or None."""
    if words[0] in CALLS:
        return tuple(words) if len(words) == 2 and is_name(words[1]) else None
    if words[0] == "swap":
        return tuple(words) if len(words) == 3 and is_name(words[1]) and is_name(words[2]) else None
    if len(words) < 3 or not is_name(words[0]) or words[1] not in CHANGES:
        return None
    expression = expression_of(words[2:])
    if expression is None:
        return None
    return (words[1], words[0], expression)


class Unfinished:
    """A procedure or a statement whose end has not been read."""

    def __init__(self, word, head):
        self.word = word
        self.head = head
        self.bodies = [[]]


class Reader:
    """Reads the lines behind the first two; each method returns whether the line may stand there."""

    def __init__(self):
        self.procedures = {}
        self.last = ""
        # From the outside to the inside, so that the depth of a text does not become that of calls.
        self.opened = []

    def read(self, words):
        """Read a line; return whether it may stand there."""
        if len(self.opened) == 0:
            return self.read_procedure(words)
        inner = self.opened[-1]
        if words[0] in FORMS:
            return self.read_opening(words)
        if inner.word == "proc":
            if words == ["end"]:
                return self.close_procedure(inner)
        elif words[0] == FORMS[inner.word][1]:
            return self.read_middle(words, inner)
        elif words[0] == FORMS[inner.word][2]:
            return self.read_closing(words, inner)
        return self.put(simple_of(words))

    def read_procedure(self, words):
        """Read the first line of a procedure."""
        if len(words) != 2 or words[0] != "proc" or not is_name(words[1]):
            return False
        # All names are greater than the empty string, which stands for no procedure.
        if words[1] <= self.last:
            return False
        self.last = words[1]
        self.opened.append(Unfinished("proc", words[1]))
        return True

    def close_procedure(self, inner):
        """Read the last line of a procedure."""
        self.opened.pop()
        self.procedures[inner.head] = tuple(inner.bodies[0])
        return True

    def read_opening(self, words):
        """Read the first line of a statement with bodies."""
        head = triple_of(words[1:-1], RELATIONS)
        if head is None or words[-1] != FORMS[words[0]][0]:
            return False
        self.opened.append(Unfinished(words[0], head))
        return True

    def read_middle(self, words, inner):
        """Read the line between the two bodies of a statement."""
        if len(words) != 1 or len(inner.bodies) != 1:
            return False
        inner.bodies.append([])
        return True

    def read_closing(self, words, inner):
        """Read the last line of a statement with bodies."""
        tail = triple_of(words[1:], RELATIONS)
        if tail is None or len(inner.bodies) != 2:
            return False
        self.opened.pop()
        return self.put((inner.word, inner.head, tuple(inner.bodies[0]), tuple(inner.bodies[1]), tail))

    def put(self, statement):
        """Add a statement to the body in which it stands, if it is one."""
        if statement is None:
            return False
        self.opened[-1].bodies[-1].append(statement)
        return True


def read_width(words):
    """Return the width that the words of the first line tell, or None."""
    if len(words) != 2 or words[0] != "width":
        return None
    return number_of(words[1])


def read_variables(words):
    """Return the variables that the words of the second line tell, or None."""
    if len(words) < 2 or words[0] != "vars" or not all([is_name(word) for word in words[1:]]):
        return None
    return tuple(words[1:])


def program_of(text):
    """Return the program whose text it is, or raise BadText with the first wrong line."""
    lines = text.split("\n")
    # Behind the last newline stands nothing, or a line that lacks its newline.
    rest = lines.pop()
    width = read_width(lines[0].split(" ")) if len(lines) > 0 else None
    if width is None:
        raise BadText(1)
    variables = read_variables(lines[1].split(" ")) if len(lines) > 1 else None
    if variables is None:
        raise BadText(2)
    reader = Reader()
    for number, line in enumerate(lines[2:], start=3):
        if not reader.read(line.split(" ")):
            raise BadText(number)
    if rest != "" or len(reader.opened) > 0:
        raise BadText(len(lines) + 1)
    return Program(width, variables, reader.procedures)
