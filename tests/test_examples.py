"""The document's own examples, with the answers that it shows."""

import doctest
import unittest

STAGES = ("stage_1", "stage_2", "stage_3", "stage_4", "stage_5", "stage_6", "stage_7")


def load_tests(loader, tests, pattern):
    for stage in STAGES:
        tests.addTests(doctest.DocFileSuite(f"examples/{stage}.txt", package="tests"))
    return tests


if __name__ == "__main__":
    unittest.main()
