"""The examples of the document, as they stand, and that of README.md."""

import doctest
import os
import unittest

HERE = os.path.dirname(os.path.abspath(__file__))
FOLDER = os.path.join(HERE, "examples")
README = os.path.join(os.path.dirname(HERE), "README.md")


class Examples(unittest.TestCase):
    def test_all(self):
        names = sorted(os.listdir(FOLDER))
        self.assertNotEqual(names, [])
        for path in [os.path.join(FOLDER, name) for name in names] + [README]:
            result = doctest.testfile(path, module_relative=False)
            self.assertGreater(result.attempted, 0, path)
            self.assertEqual(result.failed, 0, path)


if __name__ == "__main__":
    unittest.main()
