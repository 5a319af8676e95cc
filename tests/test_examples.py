"""The examples of the document, as they stand there: a file for each stage, with the name of its first module."""
import doctest
import os
import unittest

FOLDER = os.path.join(os.path.dirname(os.path.abspath(__file__)), "examples")


class Examples(unittest.TestCase):
    def test_examples(self):
        names = sorted(os.listdir(FOLDER))
        self.assertNotEqual(names, [])
        for name in names:
            with self.subTest(name):
                result = doctest.testfile(os.path.join(FOLDER, name), module_relative=False)
                self.assertGreater(result.attempted, 0)
                self.assertEqual(result.failed, 0)


if __name__ == "__main__":
    unittest.main()
