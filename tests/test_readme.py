import doctest
import os
import unittest


class Readme(unittest.TestCase):
    def test_what_the_readme_shows_is_so(self):
        path = os.path.join(os.path.dirname(os.path.abspath(__file__)), os.pardir, "README.md")
        told = doctest.testfile(path, module_relative=False)
        self.assertGreater(told.attempted, 0)
        self.assertEqual(told.failed, 0)


if __name__ == "__main__":
    unittest.main()
