"""The document's own examples, with the answers that it shows."""

import doctest
import unittest

STAGES = tuple([f"stage_{at}" for at in range(1, 13)])


def load_tests(loader, tests, pattern):
    for stage in STAGES:
        tests.addTests(doctest.DocFileSuite(f"examples/{stage}.txt", package="tests"))
    return tests


if __name__ == "__main__":
    unittest.main()
