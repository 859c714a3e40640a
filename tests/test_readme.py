"""The examples of README.md."""

import doctest
import pathlib
import re
import unittest

README = pathlib.Path(__file__).resolve().parent.parent / "README.md"


class ReadmeTest(unittest.TestCase):
    def test_examples(self):
        names = {}
        blocks = re.findall("```python\n(.*?)```", README.read_text(), re.DOTALL)
        self.assertGreater(len(blocks), 3)
        for number, block in enumerate(blocks):
            if ">>>" not in block:
                exec(block, names)
                continue
            example = doctest.DocTestParser().get_doctest(block, names, f"block {number}", str(README), 0)
            told = []
            runner = doctest.DocTestRunner(verbose=False)
            runner.run(example, out=told.append, clear_globs=False)
            self.assertEqual(runner.summarize(verbose=False).failed, 0, "".join(told))
            names = example.globs


if __name__ == "__main__":
    unittest.main()
