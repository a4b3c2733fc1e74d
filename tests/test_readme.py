"""The examples of README.md."""

import doctest
import os
import unittest

README = os.path.join(os.path.dirname(os.path.dirname(os.path.abspath(__file__))), "README.md")


class Readme(unittest.TestCase):

    def test_examples(self):
        with open(README, encoding="utf-8") as source:
            # A fence behind an example would be taken as a part of its output.
            text = source.read().replace("```", "")
        examples = doctest.DocTestParser().get_doctest(text, {}, "README.md", README, 0)
        runner = doctest.DocTestRunner(verbose=False)
        runner.run(examples)
        self.assertGreater(len(examples.examples), 20)
        self.assertEqual(runner.failures, 0)


if __name__ == "__main__":
    unittest.main()
