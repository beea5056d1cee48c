"""What README.md shows is what the program tells."""

import pathlib
import unittest

README = pathlib.Path(__file__).resolve().parent.parent / "README.md"


class TestReadme(unittest.TestCase):
    def test_each_row_tells_what_stands_behind_it(self):
        shown = README.read_text("utf-8").split("```python\n")[1].split("```")[0]
        names = {}
        told = 0
        for line in shown.splitlines():
            asked, behind, wanted = line.partition("# ")
            if behind:
                with self.subTest(line=line):
                    answer = repr(eval(asked, names)).replace("'", '"')
                    self.assertRegex(wanted[len(answer):], r"\A([:,] .*)?\Z")
                    self.assertEqual(wanted[:len(answer)], answer)
                    told += 1
            else:
                exec(asked, names)
        self.assertGreater(told, 30)


if __name__ == "__main__":
    unittest.main()
