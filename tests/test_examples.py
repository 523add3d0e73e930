"""The examples of the document, as they stand there."""

import doctest
import os

EXAMPLES = os.path.join(os.path.dirname(os.path.abspath(__file__)), "examples")


def load_tests(loader, tests, pattern):
    for name in sorted(os.listdir(EXAMPLES)):
        tests.addTests(doctest.DocFileSuite(os.path.join(EXAMPLES, name), module_relative=False))
    return tests
