"""Point [1] and the interface: where each name is defined, and what the files are made of."""

import ast
import pathlib
import unittest

FOLDER = pathlib.Path(__file__).resolve().parent.parent / "craneyard"

# Each file of the interface with its functions, and its classes with their own methods.
INTERFACE = {
    "errors": [],
    "words": ["is_name", "is_among", "number_of"],
    "rails": ["Rail", "Rail.reach", "Rail.are_apart"],
    "moves": ["span", "moved"],
    "stacks": ["Stacks", *["Stacks." + name for name in (
        "names", "place_of", "high", "weight", "boxes", "where", "is_top", "put", "take", "copied",
    )]],
    "plans": ["Plan", *["Plan." + name for name in ("add", "job", "many", "planned", "meet")]],
    "yards": ["Yard", *["Yard." + name for name in (
        "give", "places", "jobs_of", "phase", "holds", "stacks", "job", "crane_of", "is_done", "many_jobs",
        "many_turns", "copied",
    )]],
    "turns": ["ranks", "goal", "turn", "gone_on"],
    "forecast": ["bound", "when_done", "places_in", "why"],
    "texts": ["yard_of"],
    "journals": ["Keeper", "Keeper.done", "Keeper.lines", "Keeper.yard", "redone"],
    "desk": ["Desk", "Desk.say"],
}
ARGUMENTS = {
    "is_name": ["thing"],
    "is_among": ["thing", "least", "most"],
    "number_of": ["word"],
    "Rail.__init__": ["self", "end", "room", "cranes"],
    "Rail.reach": ["self", "crane"],
    "Rail.are_apart": ["self", "places"],
    "span": ["rail", "places", "at_work", "crane"],
    "moved": ["rail", "places", "at_work", "goals", "ranks"],
    "Stacks.__init__": ["self", "stacks"],
    "Stacks.names": ["self"],
    "Stacks.place_of": ["self", "stack"],
    "Stacks.high": ["self", "stack"],
    "Stacks.weight": ["self", "stack"],
    "Stacks.boxes": ["self", "stack"],
    "Stacks.where": ["self", "box"],
    "Stacks.is_top": ["self", "box"],
    "Stacks.put": ["self", "box", "weight", "stack"],
    "Stacks.take": ["self", "stack"],
    "Stacks.copied": ["self"],
    "Plan.__init__": ["self", "stacks"],
    "Plan.add": ["self", "box", "stack"],
    "Plan.job": ["self", "number"],
    "Plan.many": ["self"],
    "Plan.planned": ["self"],
    "Plan.meet": ["self", "one", "other"],
    "Yard.__init__": ["self", "rail", "stacks", "places"],
    "Yard.give": ["self", "box", "stack", "crane"],
    "Yard.places": ["self"],
    "Yard.jobs_of": ["self", "crane"],
    "Yard.phase": ["self", "crane"],
    "Yard.holds": ["self", "crane"],
    "Yard.stacks": ["self"],
    "Yard.job": ["self", "number"],
    "Yard.crane_of": ["self", "number"],
    "Yard.is_done": ["self", "number"],
    "Yard.many_jobs": ["self"],
    "Yard.many_turns": ["self"],
    "Yard.copied": ["self"],
    "ranks": ["yard"],
    "goal": ["yard", "crane"],
    "turn": ["yard"],
    "gone_on": ["yard", "many"],
    "bound": ["yard", "number"],
    "when_done": ["yard", "number", "most"],
    "places_in": ["yard", "many"],
    "why": ["yard", "crane"],
    "yard_of": ["text"],
    "Keeper.__init__": ["self", "text"],
    "Keeper.done": ["self", "line"],
    "Keeper.lines": ["self"],
    "Keeper.yard": ["self"],
    "redone": ["text", "lines"],
    "Desk.__init__": ["self", "text"],
    "Desk.say": ["self", "line"],
}
LIBRARY = {"heapq", "math", "itertools", "collections"}
BARRED = (ast.Global, ast.AsyncFunctionDef, ast.AsyncFor, ast.AsyncWith, ast.Await, ast.Import, ast.Div)


def files():
    return sorted(FOLDER.glob("*.py"))


def tree_of(path):
    return ast.parse(path.read_text(encoding="ascii"))


def defined(tree):
    """All functions, classes and methods of a file that stand at module level, by their names."""
    found = {}
    for part in tree.body:
        if isinstance(part, (ast.FunctionDef, ast.ClassDef)):
            found[part.name] = part
        if isinstance(part, ast.ClassDef):
            for method in part.body:
                if isinstance(method, ast.FunctionDef):
                    found[part.name + "." + method.name] = method
    return found


class Interface(unittest.TestCase):
    def test_each_name_is_defined_in_its_own_file(self):
        for name, wanted in INTERFACE.items():
            found = defined(tree_of(FOLDER / (name + ".py")))
            for word in wanted:
                with self.subTest(word, file=name):
                    self.assertIn(word, found)

    def test_arguments_by_name_and_order(self):
        for name in INTERFACE:
            for word, part in defined(tree_of(FOLDER / (name + ".py"))).items():
                if word in ARGUMENTS:
                    with self.subTest(word):
                        self.assertEqual([arg.arg for arg in part.args.args], ARGUMENTS[word])


class Files(unittest.TestCase):
    def test_the_folder_has_plain_files_only(self):
        for path in FOLDER.iterdir():
            if path.name != "__pycache__":
                with self.subTest(path.name):
                    self.assertRegex(path.name, r"\A[a-z0-9_]+\.py\Z")
        self.assertTrue((FOLDER / "__init__.py").is_file())

    def test_no_clock_chance_file_or_network(self):
        for path in files():
            for node in ast.walk(tree_of(path)):
                if isinstance(node, ast.ImportFrom):
                    with self.subTest(path.name, line=node.lineno):
                        self.assertEqual(node.level, 0)
                        self.assertIn(node.module.split(".")[0], LIBRARY | {"craneyard"})
                self.assertNotIsInstance(node, BARRED, path.name)

    def test_no_numbers_with_a_point(self):
        for path in files():
            for node in ast.walk(tree_of(path)):
                if isinstance(node, ast.Constant):
                    self.assertNotIsInstance(node.value, (float, complex), path.name)

    def test_signs_and_lengths(self):
        for path in files():
            text = path.read_text(encoding="ascii")
            lines = text.split("\n")
            with self.subTest(path.name):
                self.assertLessEqual(set(text), {chr(code) for code in range(32, 127)} | {"\n"})
                self.assertLess(len(lines), 400)
                self.assertLessEqual(max(len(line) for line in lines), 120)

    def test_small_functions(self):
        for path in files():
            for node in ast.walk(tree_of(path)):
                if isinstance(node, ast.FunctionDef):
                    with self.subTest(path.name, function=node.name):
                        self.assertLessEqual(node.end_lineno - node.lineno + 1, 40)
                        self.assertEqual(node.decorator_list, [])


if __name__ == "__main__":
    unittest.main()
