"""Runs the tests of one folder and closes with a line that counts them."""

import sys
import unittest


def main(folder):
    suite = unittest.TestLoader().discover(folder, pattern="test_*.py", top_level_dir=folder)
    result = unittest.TextTestRunner(stream=sys.stdout, verbosity=1).run(suite)
    wrong = {test.id().split(" ")[0] for test, _ in result.failures + result.errors}
    wrong |= {test.id() for test in result.unexpectedSuccesses}
    skipped = len(result.skipped)
    passed = max(0, result.testsRun - len(wrong) - skipped)
    print(f"{passed} passed, {len(wrong)} failed, {skipped} skipped")
    return 0 if result.wasSuccessful() and result.testsRun > 0 else 1


if __name__ == "__main__":
    sys.exit(main(sys.argv[1]))
