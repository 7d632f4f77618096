"""The interface, and what can be counted of the form of the package's files."""

import ast
import importlib
import pathlib
import unittest

FOLDER = pathlib.Path(__file__).resolve().parent.parent / "backstair"
ERRORS = ["BackError", "BadMachine", "BadMark", "BadText", "Clash", "BadPast", "BadProgram", "BadStore", "TooLong",
          "Refused", "BadNet", "BadBits", "BadTable", "NotClean", "NotStraight", "BadParts", "BadBlocks"]
# For each file its functions with their parameters; for each class its methods with theirs, without self.
FUNCTIONS = {
    "tape": {"trimmed": ["marks"]},
    "written": {"text_of": ["machine"], "machine_of": ["text"]},
    "forget": {"clashes": ["machine"], "forgets": ["machine"], "before": ["machine", "configuration"]},
    "inverse": {"clash": ["machine"], "witness": ["machine"], "inverse": ["machine"]},
    "plain": {"plain": ["machine"], "joined": ["first", "state", "second"]},
    "history": {"undone": ["machine", "configuration", "pair"], "trail": ["machine", "configuration", "past"],
                "past_of": ["machine", "configuration", "steps"]},
    "clean": {"answer_of": ["configuration"], "clean": ["machine"], "clean_begin": ["configuration"],
              "clean_end": ["machine", "configuration", "answer"], "clean_steps": ["steps", "marks"],
              "shown": ["machine", "configuration"], "lent": ["configuration"]},
    "invert": {"inverse_of": ["body"], "inverse_program": ["program"]},
    "machine": {"answer": ["program", "store", "most"]},
    "parse": {"text_of": ["program"], "program_of": ["text"]},
    "nets": {"inverse_net": ["net"], "joined_nets": ["first", "second"], "controlled": ["net", "line"],
             "simple": ["net"]},
    "tables": {"table_net": ["table"], "turned_net": ["table"], "table_of": ["net", "k", "m"]},
    "straight": {"net_of": ["program"], "bits_of": ["program", "store"], "store_of": ["program", "bits"],
                 "net_answer": ["program", "store"]},
    "flystair": {"past": ["stair", "line"]},
    "blocks": {"inverse_blocks": ["machine"], "balls": [], "keeps": ["machine"], "turned_about": ["configuration"]},
    "film": {"parted": ["machine", "first", "second", "steps"], "lost": ["machine", "configuration", "steps"]},
}
CLASSES = {
    ("tape", "Tape"): {"__init__": ["marks", "states", "rows"], "row": ["state", "mark"], "table": [],
                       "is_configuration": ["value"], "stopped": ["configuration"], "begin": ["word"],
                       "step": ["configuration"], "run": ["configuration", "steps"]},
    ("several", "Several"): {"__init__": ["tapes", "marks", "states", "rows"], "table": [],
                             "is_configuration": ["value"], "stopped": ["configuration"], "begin": ["words"],
                             "step": ["configuration"], "back": ["configuration"],
                             "run": ["configuration", "steps"], "run_back": ["configuration", "steps"]},
    ("history", "History"): {"__init__": ["machine"], "down": ["configuration", "past"], "up": ["configuration"],
                             "pace": ["configuration"]},
    ("lang", "Program"): {"__init__": ["width", "variables", "procedures"], "body": ["name"]},
    ("machine", "Machine"): {"__init__": ["program"], "begin": ["store"], "final": ["store"], "step": ["configuration"],
                             "back": ["configuration"], "stopped": ["configuration"],
                             "run": ["configuration", "steps"], "run_back": ["configuration", "steps"]},
    ("nets", "Net"): {"__init__": ["lines", "gates"], "gates": [], "run": ["bits"], "back": ["bits"]},
    ("parts", "Parts"): {"__init__": ["sizes", "changes"], "rule": ["triple"], "source": ["cell"],
                         "is_configuration": ["value"], "step": ["configuration"], "back": ["configuration"],
                         "run": ["configuration", "steps"], "run_back": ["configuration", "steps"],
                         "rows": ["configuration", "steps"]},
    ("partstair", "PartStair"): {"__init__": ["machine"], "down": ["configuration"], "up": ["configuration"],
                                 "pace": ["configuration"]},
    ("flystair", "FlyStair"): {"__init__": ["machine"], "down": ["configuration"], "up": ["configuration"],
                               "pace": ["configuration"], "memories": ["configuration"]},
    ("blocks", "Blocks"): {"__init__": ["values"], "is_configuration": ["value"], "step": ["configuration"],
                           "back": ["configuration"], "run": ["configuration", "steps"],
                           "run_back": ["configuration", "steps"]},
    ("film", "Film"): {"__init__": ["machine"], "start": ["word"], "shown": ["line"], "forward": ["line", "steps"],
                       "backward": ["line", "steps"], "moments": ["line", "first", "last"], "answer": ["word", "steps"]},
}


def tree_of(name):
    """Return the parsed text of a file of the package."""
    return ast.parse((FOLDER / f"{name}.py").read_text(encoding="utf-8"))


def defined(body, kind):
    """Return the dict of the functions or classes that stand in a body."""
    return {part.name: part for part in body if isinstance(part, kind)}


def parameters(function):
    """Return the names of a function's parameters."""
    return [part.arg for part in function.args.args]


def imported(name):
    """Return the names of the package's files from which a file imports."""
    parts = [part for part in ast.walk(tree_of(name)) if isinstance(part, (ast.Import, ast.ImportFrom))]
    return [(getattr(part, "module", None) or "").removeprefix("backstair.") for part in parts]


class Interface(unittest.TestCase):
    def test_functions_stand_in_their_files(self):
        for name, functions in FUNCTIONS.items():
            found = defined(tree_of(name).body, ast.FunctionDef)
            for function, names in functions.items():
                self.assertIn(function, found, name)
                self.assertEqual(parameters(found[function]), names, function)

    def test_classes_have_their_methods_themselves(self):
        for (name, known), methods in CLASSES.items():
            found = defined(defined(tree_of(name).body, ast.ClassDef)[known].body, ast.FunctionDef)
            for method, names in methods.items():
                self.assertIn(method, found, known)
                self.assertEqual(parameters(found[method])[1:], names, method)

    def test_errors_stand_in_their_file(self):
        found = defined(tree_of("errors").body, ast.ClassDef)
        for error in ERRORS:
            self.assertIn(error, found)

    def test_all_can_be_imported(self):
        for name, functions in FUNCTIONS.items():
            module = importlib.import_module(f"backstair.{name}")
            for function in functions:
                self.assertEqual(getattr(module, function).__module__, f"backstair.{name}")
        for name, known in CLASSES:
            module = importlib.import_module(f"backstair.{name}")
            self.assertEqual(getattr(module, known).__module__, f"backstair.{name}")
            for method in CLASSES[name, known]:
                self.assertIn(method, vars(getattr(module, known)))

    def test_only_errors_are_raised_that_stand_there(self):
        for path in sorted(FOLDER.glob("*.py")):
            for part in ast.walk(ast.parse(path.read_text(encoding="ascii"))):
                if isinstance(part, ast.Raise):
                    self.assertIn(part.exc.func.id, ERRORS[1:], path.name)
                if isinstance(part, ast.ClassDef) and part.bases:
                    self.assertEqual(path.name, "errors.py")

    def test_nothing_from_outside_is_used(self):
        for path in sorted(FOLDER.glob("*.py")):
            for part in ast.walk(ast.parse(path.read_text(encoding="ascii"))):
                if isinstance(part, (ast.Import, ast.ImportFrom)):
                    self.assertIsInstance(part, ast.ImportFrom)
                    self.assertTrue(part.module.startswith("backstair."), path.name)
                if isinstance(part, ast.Name):
                    self.assertNotIn(part.id, ["open", "input", "print", "hash", "id", "exec", "eval", "__import__"])


class Form(unittest.TestCase):
    def files(self):
        return sorted(FOLDER.glob("*.py"))

    def test_sizes_and_signs(self):
        for path in self.files():
            text = path.read_text(encoding="ascii")
            lines = text.split("\n")
            self.assertLessEqual(len(lines), 400, path.name)
            self.assertLessEqual(max(len(line) for line in lines), 120, path.name)
            self.assertTrue(all(sign == "\n" or " " <= sign <= "~" for sign in text), path.name)
            for part in ast.walk(ast.parse(text)):
                if isinstance(part, ast.FunctionDef):
                    self.assertLessEqual(part.end_lineno - part.lineno + 1, 40, part.name)

    def test_no_two_files_import_from_each_other(self):
        names = [path.stem for path in self.files()]
        left = {name: imported(name) for name in names}
        for name, others in left.items():
            for other in others:
                self.assertIn(other, names, f"{name} imports from outside the package")
        while left:
            free = [name for name, others in left.items() if not any(other in left for other in others)]
            self.assertTrue(free, f"a ring of imports: {sorted(left)}")
            left = {name: others for name, others in left.items() if name not in free}

    def test_the_folder_contains_nothing_else(self):
        for path in FOLDER.iterdir():
            self.assertTrue(path.suffix == ".py" or path.name == "__pycache__", path.name)
