"""Runs all tests of one folder: `python3 .ci/run_folder.py FOLDER TOP`. Prints how many passed and how many failed."""

import sys
import unittest


def main(folder, top):
    suite = unittest.TestLoader().discover(folder, pattern="test_*.py", top_level_dir=top)
    result = unittest.TextTestRunner(stream=sys.stderr).run(suite)
    # A test with several failing parts counts once.
    wrong = {test.id().split(" ")[0] for test, _ in result.failures + result.errors}
    failed = len(wrong) + len(result.unexpectedSuccesses)
    print(max(result.testsRun - failed, 0), failed)
    return 0 if result.wasSuccessful() and result.testsRun > 0 else 1


if __name__ == "__main__":
    sys.exit(main(sys.argv[1], sys.argv[2]))
