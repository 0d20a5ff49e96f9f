"""The interface as tests/interface.md tells it: modules, names with their arguments, examples with their answers."""

import importlib
import inspect
import re
import unittest
from pathlib import Path

from laytogether.errors import LayError

TEXT = Path(__file__).with_name("interface.md").read_text("utf-8")
# The text under the heading of each module.
PARTS = dict(re.findall(r"^## laytogether/(\w+)\.py\n(.*?)(?=^## |\Z)", TEXT, re.MULTILINE | re.DOTALL))
METHODS = {"run(line)", "undo()"}


def names_of(part):
    """The names with arguments that a part lists."""
    listed = "\n".join(line for line in part.splitlines() if line.startswith("- "))
    return set(re.findall(r"`(\w+\([^`]*\))`", listed)) - METHODS


def examples_of(part):
    """Pairs (line, what is shown below it, None without anything) of a part."""
    found = []
    for block in re.findall(r"```\n(.*?)```", part, re.DOTALL):
        for line in block.splitlines():
            if line.startswith(">>> "):
                found.append((line[4:], None))
            else:
                found[-1] = (found[-1][0], line)
    return found


def told_of(error):
    """An error with its fields, as the interface shows it."""
    fields = ", ".join(f"{name}={value!r}" for name, value in vars(error).items())
    return f"raises {type(error).__name__}({fields})"


def answer_of(line, space):
    """What a line of an example answers, as the interface shows it."""
    try:
        return repr(eval(line, space))
    except LayError as error:
        return told_of(error)


def shown(thing):
    """A function or a class with its arguments, an error class with its base, as the interface lists them."""
    if isinstance(thing, type) and issubclass(thing, Exception):
        return f"{thing.__name__}({thing.__base__.__name__})"
    return f"{thing.__name__}{inspect.signature(thing)}"


class Interface(unittest.TestCase):

    def test_all_parts_are_there(self):
        self.assertEqual(len(PARTS), 22)
        self.assertEqual(len([name for part in PARTS.values() for name in names_of(part)]), 218)
        self.assertEqual(len([pair for part in PARTS.values() for pair in examples_of(part)]), 73)

    def test_each_name_is_defined_in_its_file(self):
        for name, part in PARTS.items():
            with self.subTest(name):
                module = importlib.import_module(f"laytogether.{name}")
                things = vars(module).values()
                own = {shown(thing) for thing in things if getattr(thing, "__module__", None) == module.__name__}
                self.assertLessEqual(names_of(part), own)

    def test_examples(self):
        for name, part in PARTS.items():
            space = {}
            for line, below in examples_of(part):
                with self.subTest(module=name, line=line):
                    if below is None:
                        exec(line, space)
                    else:
                        self.assertEqual(answer_of(line, space), below)


if __name__ == "__main__":
    unittest.main()
