import doctest
import pathlib
import unittest

HERE = pathlib.Path(__file__).resolve().parent


class Examples(unittest.TestCase):

    def check(self, path):
        failed, run = doctest.testfile(str(path), module_relative=False)
        self.assertEqual(failed, 0)
        self.assertGreater(run, 0)

    def test_examples_of_the_document(self):
        self.check(HERE / 'examples.txt')

    def test_examples_of_the_readme(self):
        self.check(HERE.parent / 'README.md')


if __name__ == '__main__':
    unittest.main()
