"""Run the tests of one folder; the last line tells how many passed and failed."""

import sys
import unittest
from pathlib import Path

ROOT = Path(__file__).resolve().parent.parent


def main():
    folder = sys.argv[1]
    sys.path.insert(0, str(ROOT))
    suite = unittest.TestLoader().discover(folder, top_level_dir=folder)
    result = unittest.TextTestRunner(stream=sys.stdout).run(suite)
    failed = len(result.failures) + len(result.errors) + len(result.unexpectedSuccesses)
    skipped = len(result.skipped)
    passed = max(0, result.testsRun - failed - skipped)
    print(f"{passed} passed, {failed} failed, {skipped} skipped", flush=True)
    return 0 if result.wasSuccessful() else 1


if __name__ == "__main__":
    sys.exit(main())
