"""The examples of the document, and those of README.md."""

import doctest
import unittest


class Examples(unittest.TestCase):

    def test_document(self):
        result = doctest.testfile("doc_examples.txt")
        self.assertEqual((result.failed, result.attempted), (0, 84))

    def test_readme(self):
        result = doctest.testfile("../README.md")
        self.assertEqual(result.failed, 0)
        self.assertGreater(result.attempted, 0)


if __name__ == "__main__":
    unittest.main()
