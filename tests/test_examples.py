"""The worked examples of the document, word for word, and those of README.md."""

import doctest
import os
import unittest

RATIOS = '''
>>> from loopbounds.ratios import Ratio, quotient
>>> r = Ratio(7, 2)
>>> [str(1 - r * 2), str(quotient(3, r)), r // 1, str(-r % 2), str(abs(-r)), str(r ** 3), 3 > r, r == Ratio(14, 4), repr(Ratio.read("3"))]
['-6', '6/7', 3, '1/2', '7/2', '343/8', False, True, 'Ratio(3, 1)']
'''

SUMS = '''
>>> from loopbounds.ratios import Ratio
>>> from loopbounds.sums import Sum
>>> x, y = Sum(x=1), Sum(y=1)
>>> total = 3 - (x * 2 + y - 1) * Ratio(1, 4)
>>> [str(total), str(total.at(x=1, y=3, z=0)), total.names, str(x - x), total == Sum.read("-1/2 x + -1/4 y + 13/4")]
['-1/2 x + -1/4 y + 13/4', '2', ('x', 'y'), '0', True]
'''

README = os.path.join(os.path.dirname(os.path.dirname(os.path.abspath(__file__))), "README.md")


class ExamplesTest(unittest.TestCase):
    def check_examples(self, text, name):
        told = []
        test = doctest.DocTestParser().get_doctest(text, {}, name, None, 0)
        result = doctest.DocTestRunner(verbose=False).run(test, out=told.append)
        self.assertGreater(result.attempted, 0)
        self.assertEqual(result.failed, 0, "".join(told))

    def test_ratios(self):
        self.check_examples(RATIOS, "ratios")

    def test_sums(self):
        self.check_examples(SUMS, "sums")

    def test_readme(self):
        with open(README, encoding="utf-8") as file:
            # The fence of an example would else be taken for a part of its answer.
            self.check_examples(file.read().replace("```", ""), "README.md")
