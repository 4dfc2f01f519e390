import doctest
import re
import unittest
from pathlib import Path

README = Path(__file__).resolve().parent.parent / "README.md"


class Readme(unittest.TestCase):
    def test_examples(self):
        blocks = re.findall(r"```\n(>>> .*?)```", README.read_text(encoding="utf-8"), flags=re.DOTALL)
        self.assertTrue(blocks)
        for block in blocks:
            test = doctest.DocTestParser().get_doctest(block, {}, "README.md", "README.md", 0)
            self.assertEqual(doctest.DocTestRunner(verbose=False).run(test).failed, 0)


if __name__ == "__main__":
    unittest.main()
