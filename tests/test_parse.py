"""[4.14] to [4.16]: the texts of programs."""

import re
import unittest

from backstair.errors import BadProgram, BadText
from backstair.invert import inverse_program
from backstair.lang import Program
from backstair.machine import answer
from backstair.parse import program_of, text_of
from tests.oracle import rng_of
from tests.programs import some_parts

EXAMPLE = "width 3\nvars a b\nproc main\na += b\nif a < 4 then\nb += 1\nelse\nb -= 1\nfi a < 4\nend\n"
ALL = ("width 4\nvars a b main\nproc main\na += b\na -= 15\na ^= main\na += b + 1\na += 0 - b\na += b * b\na += b & 1\n"
       "a += b | main\na += 2 ^ b\na -= b * 3\na ^= b & 4\nswap a b\ncall p\nuncall p\nif a == b then\nelse\nfi a != 1\n"
       "from a < b do\na += 1\nif 1 < a then\nfrom 1 == 1 do\nb += 1\nloop\nuntil 1 == 1\nelse\nfi b == a\nloop\n"
       "swap b a\nuntil 0 != main\nend\nproc p\nend\nproc pp\nuncall p\nend\n")
WORDS = ["add", "call", "do", "else", "end", "fi", "from", "if", "loop", "proc", "swap", "then", "uncall", "until",
         "vars", "width"]
NO_NAMES = WORDS + ["", "A", "aB", "abcdefghi", "a1", "1a", "a_b", "a.", "\u00e4", "a\r", "a\t", "\ta", "+", "+=", "<"]
NO_NUMBERS = ["00", "01", "007", "+1", "-1", "-0", "1_0", "0x1", "1.0", "1e1", "\u0661", "\u00b2", "1\r", "1a"]

NAME = "(?!(?:%s)(?: |$))[a-z]{1,8}" % "|".join(WORDS)
ATOM = f"(?:{NAME}|0|[1-9][0-9]*)"
CONDITION = f"{ATOM} (?:==|!=|<) {ATOM}"
# Each kind of line behind the first two, by a letter.
LINES = {
    "s": f"{NAME} (?:\\+=|-=|\\^=) {ATOM}(?: [-+*&|^] {ATOM})?|swap {NAME} {NAME}|(?:un)?call {NAME}",
    "i": f"if {CONDITION} then", "e": "else", "f": f"fi {CONDITION}",
    "r": f"from {CONDITION} do", "l": "loop", "u": f"until {CONDITION}", "p": f"proc {NAME}", "n": "end"}
LINES = {kind: re.compile(f"(?:{rule})\\Z") for kind, rule in LINES.items()}
# What may follow when this is open, and what is open then.
NEXT = {"": {"p": "p"}, "p": {"n": ""}, "i": {"e": "e"}, "e": {"f": ""}, "r": {"l": "l"}, "l": {"u": ""}}


def kind_of(line):
    """Return the letter of a line's kind, or "?"."""
    return next((kind for kind, rule in LINES.items() if rule.match(line)), "?")


def first_fault(text):
    """Return the number of the first line at which a text is wrong, or of the first missing one, or None."""
    lines = text.split("\n")
    whole, rest = lines[:-1], lines[-1]
    heads = [re.compile("width (?:0|[1-9][0-9]*)\\Z"), re.compile(f"vars(?: {NAME})+\\Z")]
    opened, names = [""], [""]
    for at, line in enumerate(whole):
        if at < 2:
            if not heads[at].match(line):
                return at + 1
            continue
        kind, top = kind_of(line), opened[-1]
        if kind in NEXT[top]:
            if top:
                opened.pop()
            if NEXT[top][kind]:
                opened.append(NEXT[top][kind])
        elif kind in ("i", "r") and top:
            opened.append(kind)
        elif kind != "s" or not top:
            return at + 1
        if kind == "p":
            if line[5:] <= names[-1]:
                return at + 1
            names.append(line[5:])
    if rest or len(whole) < 2 or opened != [""]:
        return len(whole) + 1
    return None


def lines_of(text):
    """Return the lines of a text, without their newlines."""
    return text.split("\n")[:-1]


def joined(lines):
    """Return the text of lines."""
    return "".join(line + "\n" for line in lines)


class Case(unittest.TestCase):
    def fault(self, text, line):
        """Look whether a text is refused with this line."""
        self.assertEqual(first_fault(text), line, text)
        with self.assertRaises(BadText, msg=text) as caught:
            program_of(text)
        self.assertEqual(caught.exception.line, line, text)

    def refused(self, text):
        """Look whether a text is made as it must be, but its program is refused."""
        self.assertIsNone(first_fault(text), text)
        with self.assertRaises(BadProgram, msg=text):
            program_of(text)

    def check(self, text):
        """Compare with the model; return how it came out."""
        line = first_fault(text)
        if line is not None:
            self.fault(text, line)
            return "fault"
        try:
            found = program_of(text)
        except BadProgram:
            return "refused"
        self.assertEqual(text_of(found), text)
        return "right"


def bodies(program):
    """Return the dict of a program's bodies."""
    return {name: program.body(name) for name in program.names}


class ThereAndBack(Case):
    def test_example(self):
        found = program_of(EXAMPLE)
        self.assertEqual((found.width, found.variables, found.names), (3, ("a", "b"), ("main",)))
        self.assertEqual(found.body("main"), (
            ("+=", "a", "b"), ("if", ("<", "a", 4), (("+=", "b", 1),), (("-=", "b", 1),), ("<", "a", 4))))
        self.assertEqual(text_of(found), EXAMPLE)
        self.assertEqual(answer(found, (1, 2), 10), ((3, 3), 4))
        self.assertEqual(answer(inverse_program(found), (3, 3), 10), ((1, 2), 4))

    def test_each_kind_of_line(self):
        found = program_of(ALL)
        self.assertEqual(text_of(found), ALL)
        inner = ("from", ("==", 1, 1), (("+=", "b", 1),), (), ("==", 1, 1))
        body = (
            ("+=", "a", "b"), ("-=", "a", 15), ("^=", "a", "main"), ("+=", "a", ("+", "b", 1)), ("+=", "a", ("-", 0, "b")),
            ("+=", "a", ("*", "b", "b")), ("+=", "a", ("&", "b", 1)), ("+=", "a", ("|", "b", "main")),
            ("+=", "a", ("^", 2, "b")), ("-=", "a", ("*", "b", 3)), ("^=", "a", ("&", "b", 4)), ("swap", "a", "b"),
            ("call", "p"), ("uncall", "p"), ("if", ("==", "a", "b"), (), (), ("!=", "a", 1)),
            ("from", ("<", "a", "b"), (("+=", "a", 1), ("if", ("<", 1, "a"), (inner,), (), ("==", "b", "a"))),
             (("swap", "b", "a"),), ("!=", 0, "main")))
        self.assertEqual(bodies(found), {"main": body, "p": (), "pp": (("uncall", "p"),)})
        self.assertEqual(found.variables, ("a", "b", "main"))
        self.assertEqual(text_of(Program(4, ("a", "b", "main"), bodies(found))), ALL)

    def test_smallest(self):
        self.assertEqual(text_of(Program(1, ("a",), {"main": ()})), "width 1\nvars a\nproc main\nend\n")
        self.assertEqual(bodies(program_of("width 1\nvars a\nproc main\nend\n")), {"main": ()})

    def test_procedures_in_ascending_order(self):
        procedures = {"z": (), "main": (("call", "z"),), "a": (), "mainx": (), "mai": ()}
        text = text_of(Program(2, ("b",), procedures))
        self.assertEqual([line for line in lines_of(text) if line[:5] == "proc "],
                         ["proc a", "proc mai", "proc main", "proc mainx", "proc z"])
        self.assertEqual(bodies(program_of(text)), procedures)

    def test_some_programs(self):
        rng = rng_of(71)
        for _ in range(500):
            width, variables, procedures = some_parts(rng, 6)
            text = text_of(Program(width, variables, procedures))
            self.assertIsNone(first_fault(text))
            found = program_of(text)
            self.assertEqual((found.width, found.variables, bodies(found)), (width, variables, procedures))
            self.assertEqual(text_of(found), text)

    def test_greatest(self):
        body = (("+=", "a", ("*", "b", 255)),) * 100
        for _ in range(10):
            body = (("if", ("==", "a", 0), body, (("swap", "a", "b"),), ("!=", "a", 0)),) + (("-=", "c", 1),) * 8
        names = ["main"] + ["p" * many for many in range(1, 8)]
        program = Program(8, ("a", "b", "c", "d", "e", "ffffffff"), {name: body if name == "main" else () for name in names})
        self.assertEqual(bodies(program_of(text_of(program))), bodies(program))
        self.assertEqual(text_of(program_of(text_of(program))), text_of(program))


class FirstLines(Case):
    def test_width(self):
        rest = "vars a\nproc main\nend\n"
        for width in range(1, 9):
            self.assertEqual(program_of(f"width {width}\n" + rest).width, width)
        for width in ["0", "9", "10", "99", "4294967297", "1000000001", "1" + "0" * 5000, "3" * 5000]:
            self.refused(f"width {width}\n" + rest)
        for line in ["", " ", "width", "width ", "width  3", "width 3 ", " width 3", "width 3 3", "Width 3", "width a",
                     "width\t3", "3", "vars a", "proc main", "width3", "width 3\r"] + [f"width {n}" for n in NO_NUMBERS]:
            self.fault(f"{line}\n" + rest, 1)
            self.fault(line, 1)

    def test_variables(self):
        rest = "proc main\nend\n"
        for names in ["a", "a b", "b a", "main p", "a b c d e f", "zzzzzzzz"]:
            self.assertEqual(program_of(f"width 3\nvars {names}\n" + rest).variables, tuple(names.split(" ")))
        for names in ["a a", "a b a", "a b c d e f g", "a " * 100 + "a"]:
            self.refused(f"width 3\nvars {names}\n" + rest)
        for line in ["", " ", "vars", "vars ", "vars a ", " vars a", "vars  a", "vars a  b", "Vars a", "var a", "a",
                     "vars a,b", "vars 1", "width 3", "proc main", "end", "vars\ta"]:
            self.fault(f"width 3\n{line}\n" + rest, 2)
        for name in NO_NAMES:
            for line in [f"vars {name}", f"vars {name} a", f"vars a {name}", f"vars a b c d e f {name}"]:
                self.fault(f"width 3\n{line}\n" + rest, 2)

    def test_both_wrong(self):
        self.fault("width a\nvars 1\nproc main\nend\n", 1)
        self.fault("vars a\nwidth 3\nproc main\nend\n", 1)
        # The number of the width is not looked at before the whole text has been read.
        self.fault("width 9\nvars 1\nproc main\nend\n", 2)
        self.fault("width 9\nvars a\nproc main\n", 4)


class Lengths(Case):
    def test_missing_lines(self):
        for text in [EXAMPLE, ALL]:
            lines = lines_of(text)
            for many in range(len(lines)):
                way = self.check(joined(lines[:many]))
                # Behind the first two lines a text may be at its end, but then it has no procedure.
                whole = many > 0 and (many == 2 or lines[many - 1] == "end")
                self.assertEqual(way == "fault", not whole)
        self.fault("", 1)
        self.fault("width 3\n", 2)
        self.fault("width 3\nvars a\nproc main\n", 4)
        self.fault("width 3\nvars a\nproc main\na += 1\n", 5)
        self.fault("width 3\nvars a\nproc main\nif a == 1 then\n", 5)
        self.fault("width 3\nvars a\nproc main\nif a == 1 then\nelse\n", 6)
        self.fault("width 3\nvars a\nproc main\nif a == 1 then\nelse\nfi a == 1\n", 7)
        self.fault("width 3\nvars a\nproc main\nfrom a == 1 do\nloop\n", 6)

    def test_no_last_newline(self):
        for text in [EXAMPLE, ALL]:
            lines = lines_of(text)
            for many in range(1, len(lines) + 1):
                self.fault(joined(lines[:many])[:-1], many)
            self.fault(text + "proc zz", len(lines) + 1)
            self.fault(text + "x", len(lines) + 1)
            self.fault(text + " ", len(lines) + 1)
        self.fault("\n", 1)
        self.fault(" ", 1)
        self.fault("width 3\nvars a", 2)

    def test_every_beginning(self):
        for text in [EXAMPLE, ALL]:
            for many in range(len(text)):
                self.check(text[:many])

    def test_too_many_lines(self):
        lines = len(lines_of(EXAMPLE))
        for more in ["\n", "end\n", "a += 1\n", "width 3\n", "vars a\n", " \n", "else\n", "fi a < 4\n", "\n\n",
                     "\nproc p\nend\n", "procs p\nend\n", "proc\nend\n"]:
            self.fault(EXAMPLE + more, lines + 1)
        self.fault(EXAMPLE + "proc p\nend\nend\n", lines + 3)
        self.fault(EXAMPLE + "proc p\n", lines + 2)


class Procedures(Case):
    def test_no_procedure(self):
        self.refused("width 3\nvars a\n")

    def test_without_main(self):
        self.refused("width 3\nvars a\nproc p\nend\n")
        self.refused("width 3\nvars a\nproc mai\nend\nproc mainx\nend\n")

    def test_too_many(self):
        names = ["main"] + ["p" * many for many in range(1, 9)]
        procs = [f"proc {name}\nend\n" for name in names]
        self.assertEqual(len(program_of("width 3\nvars a\n" + "".join(procs[:8])).names), 8)
        self.refused("width 3\nvars a\n" + "".join(procs))

    def test_order(self):
        for names, line in [("main a", 5), ("a b main c", 9), ("p main", 5), ("main main", 5), ("a a main", 5),
                            ("main p pp p", 9), ("main p ab pp", 7), ("b a main", 5), ("main ma", 5), ("mains main", 5)]:
            self.fault("width 3\nvars a\n" + "".join(f"proc {name}\nend\n" for name in names.split(" ")), line)
        self.fault("width 3\nvars a\nproc main\na += 1\nend\nproc a\nnothing\nend\n", 6)
        self.fault("width 3\nvars a\nproc main\na += 1\nend\nproc main", 6)

    def test_names(self):
        for name in NO_NAMES:
            self.fault(f"width 3\nvars a\nproc {name}\nend\n", 3)
            self.fault(f"width 3\nvars a\nproc a\nend\nproc {name}\nend\n", 5)
        for line in ["", "proc", "proc ", "proc  main", "proc main ", " proc main", "proc main main", "Proc main", "main",
                     "end", "a += 1", "proc main a"]:
            self.fault(f"width 3\nvars a\n{line}\nend\n", 3)

    def test_ends(self):
        for line in ["end ", " end", "End", "ends", "end main", "end end", "endproc", "fi", "until"]:
            self.fault(f"width 3\nvars a\nproc main\n{line}\n", 4)

    def test_procedures_within_procedures(self):
        self.fault("width 3\nvars a\nproc main\nproc p\nend\nend\n", 4)
        self.fault("width 3\nvars a\nproc main\nif a == 1 then\nproc p\nend\nelse\nfi a == 1\nend\n", 5)
        self.fault("width 3\nvars a\nproc main\nif a == 1 then\nend\n", 5)
        self.fault("width 3\nvars a\nproc main\nfrom a == 1 do\nloop\nend\n", 6)


class Statements(Case):
    def text(self, *lines):
        """Return the text of a program with these lines in main."""
        return joined(["width 3", "vars a b c", "proc main", *lines, "end", "proc p", "end"])

    def line(self, line, fault):
        """Look whether a line is a fault in each place where a statement may stand."""
        for before, after in [([], []), (["a += 1"], ["b += 1"]), (["if a == 1 then"], ["else", "fi a == 1"]),
                              (["if a == 1 then", "else"], ["fi a == 1"]), (["from a == 1 do"], ["loop", "until a == 1"]),
                              (["from a == 1 do", "loop"], ["until a == 1"])]:
            text = self.text(*before, line, *after)
            if fault:
                self.fault(text, 4 + len(before))
            else:
                self.refused(text)

    def test_right_ones(self):
        for line, statement in [
                ("a += 7", ("+=", "a", 7)), ("a -= 0", ("-=", "a", 0)), ("b ^= c", ("^=", "b", "c")),
                ("a += b + c", ("+=", "a", ("+", "b", "c"))), ("a += 1 - 2", ("+=", "a", ("-", 1, 2))),
                ("swap c a", ("swap", "c", "a")), ("call p", ("call", "p")), ("uncall p", ("uncall", "p"))]:
            self.assertEqual(program_of(self.text(line)).body("main"), (statement,))

    def test_faults(self):
        for line in [
                "", " ", "a", "a +=", "a += ", "a += 1 ", " a += 1", "a  += 1", "a +=  1", "a+= 1", "a +=1", "a += 1 +",
                "a += + 1", "a += b +", "a += b  + 1", "a += b + 1 + 1", "a += b 1", "a += b +1", "a = 1", "a *= 2",
                "a |= 2", "+= a 1", "1 += a", "a += b / 2", "a += b % 2", "a += b == 1", "a += b << 1", "a + b", "a += (b)",
                "swap", "swap a", "swap a b c", "swap a  b", "swap a, b", "swap 1 a", "swap a 1", "Swap a b", "call",
                "call ", "call p p", "call  p", "uncall", "call 1", "uncalls p", "callp", "add a b", "do", "then", "width 3",
                "vars a", "loop a", "else a", "fi", "until", "fi a", "until a <", "end a", "if", "from", "if a", "if then",
                "if a == 1", "if a == 1 do", "from a == 1 then", "if a = 1 then", "if a <= 1 then", "if a > 1 then",
                "if a + 1 then", "if a == 1 then ", "if  a == 1 then", "if a == 1  then", "if a == b == c then",
                "if a == 1 + 1 then", "from a do", "from a == do", "from == 1 do", "if a == 1 then then", "a += 1\t",
                "a += 1\r", "a += 1#", "a\t+= 1"]:
            self.line(line, True)

    def test_names_and_numbers(self):
        for wrong in NO_NAMES:
            for line in [f"{wrong} += 1", f"swap {wrong} a", f"swap a {wrong}", f"call {wrong}", f"uncall {wrong}"]:
                self.line(line, True)
        for wrong in NO_NAMES + NO_NUMBERS:
            for line in [f"a += {wrong}", f"a -= {wrong} + 1", f"a ^= b * {wrong}", f"if {wrong} < 1 then",
                         f"if 1 == {wrong} then", f"from {wrong} != a do"]:
                self.line(line, True)
            self.fault(self.text("if a == 1 then", "else", f"fi {wrong} == 1"), 6)
            self.fault(self.text("from a == 1 do", "loop", f"until 1 == {wrong}"), 6)

    def test_programs_that_are_refused(self):
        for line in ["a += 8", "a += 10", "a += b + 8", "a += 8 + b", "a -= 99999999999999999999", "d += 1", "a += d",
                     "a += a", "a += a + 1", "a += 1 - a", "a ^= a", "swap a a", "swap a d", "swap d a", "call main",
                     "uncall main", "call q", "uncall a", "abcdefgh += 1", "a += " + "9" * 5000, "a += 1" + "0" * 20]:
            self.line(line, False)
        for line in ["if a == 8 then", "if d == 1 then", "if 1 < 8 then"]:
            self.refused(self.text(line, "else", "fi a == 1"))
        for line in ["from a == 8 do", "from d == 1 do", "from 8 != a do"]:
            self.refused(self.text(line, "loop", "until a == 1"))
        self.refused(self.text("if a == 1 then", "else", "fi a == d"))
        self.refused(self.text("from a == 1 do", "loop", "until a == 8"))

    def test_a_fault_comes_before_a_program_that_is_refused(self):
        self.fault(self.text("a += 8", "a + 1"), 5)
        self.fault(joined(["width 0", "vars a a", "proc main", "a += a"]), 5)

    def test_lines_of_other_statements(self):
        one, two = ["if a == 1 then", "else", "fi a == 1"], ["from a == 1 do", "loop", "until a == 1"]
        for lines, line in [
                ([one[1]], 4), ([one[2]], 4), ([two[1]], 4), ([two[2]], 4), ([one[0], one[2]], 5), ([two[0], two[2]], 5),
                ([one[0], two[1]], 5), ([two[0], one[1]], 5), ([one[0], one[1], two[2]], 6), ([two[0], two[1], one[2]], 6),
                ([one[0], one[1], one[1], one[2]], 6), ([two[0], two[1], two[1], two[2]], 6), (one + [one[2]], 7),
                (two + [two[1]], 7), ([one[0]] + two[:2] + one[1:], 7), ([one[0]] + one + one[2:], 8),
                ([two[0]] + one + two[1:] + [two[2]], 10), (one[:2], 6), (one[:1], 5), (two[:2], 6)]:
            self.fault(self.text(*lines), line)
        self.assertEqual(self.check(self.text(one[0], *two, one[1], *one, *two, one[2])), "right")

    def test_deep_texts(self):
        for many, way in [(10, "right"), (11, "refused"), (66, "refused"), (5000, "refused")]:
            text = self.text(*["if a == 1 then"] * many, *["else", "fi a == 1"] * many)
            self.assertEqual(self.check(text), way)
            if way == "refused":
                with self.assertRaises(BadProgram):
                    program_of(text)
        self.fault(self.text(*["from a == 1 do"] * 5000, *["loop", "until a == 1"] * 4999), 15002)
        self.assertEqual(self.check(self.text(*["a += 1"] * 200)), "right")
        self.refused(self.text(*["a += 1"] * 201))


class Changed(Case):
    """Texts that are nearly right, compared with a model made of patterns for lines."""

    def texts(self):
        rng = rng_of(72)
        more = [text_of(Program(*some_parts(rng, 5))) for _ in range(12)]
        return [EXAMPLE, ALL] + [text for text in more if len(text) > 60]

    def test_lines_left_out_doubled_and_exchanged(self):
        ways = []
        for text in self.texts():
            lines = lines_of(text)
            for at in range(len(lines)):
                ways.append(self.check(joined(lines[:at] + lines[at + 1:])))
                ways.append(self.check(joined(lines[:at + 1] + lines[at:])))
                for other in range(at):
                    changed = list(lines)
                    changed[at], changed[other] = lines[other], lines[at]
                    ways.append(self.check(joined(changed)))
        for way in ("fault", "right"):
            self.assertGreater(ways.count(way), 20)

    def test_lines_put_in_elsewhere(self):
        for text in self.texts():
            lines = lines_of(text)
            for line in sorted(set(lines)) + ["", "end", "proc m", "loop", "else", "fi a < 1", "until a < 1"]:
                for at in range(len(lines) + 1):
                    self.check(joined(lines[:at] + [line] + lines[at:]))

    def test_signs(self):
        ways = []
        for text in self.texts()[:6]:
            for at in range(len(text) + 1):
                ways.append(self.check(text[:at] + text[at + 1:]))
                for sign in " \n0+-a":
                    ways.append(self.check(text[:at] + sign + text[at:]))
                    ways.append(self.check(text[:at] + sign + text[at + 1:]))
        for way in ("fault", "refused", "right"):
            self.assertGreater(ways.count(way), 20)

    def test_other_words(self):
        words = ["a", "d", "main", "0", "9", "00", "-1", "+=", "+", "==", "<", "if", "end", "then", "A", "", "zzzzzzzzz"]
        for text in self.texts()[:6]:
            lines = lines_of(text)
            for at, line in enumerate(lines):
                parts = line.split(" ")
                for place in range(len(parts)):
                    self.check(joined(lines[:at] + [" ".join(parts[:place] + parts[place + 1:])] + lines[at + 1:]))
                    for word in words:
                        changed = " ".join(parts[:place] + [word] + parts[place + 1:])
                        self.check(joined(lines[:at] + [changed] + lines[at + 1:]))
