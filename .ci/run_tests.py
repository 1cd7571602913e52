"""Run the tests of the project and those under ../shared/tests in one run, so that there is one count."""

import sys
import unittest
from pathlib import Path

ROOT = Path(__file__).resolve().parent.parent
SHARED_TESTS = ROOT.parent / "shared" / "tests"


def discover(folder, top):
    # A new loader each time: a loader remembers the top folder of its first call.
    return unittest.TestLoader().discover(str(folder), pattern="test_*.py", top_level_dir=str(top))


def shared_folders():
    """The folders with shared tests; a folder with an __init__.py is reached from the one above it."""
    if not SHARED_TESTS.is_dir():
        return []
    below = [path for path in sorted(SHARED_TESTS.rglob("*")) if path.is_dir()]
    loose = [path for path in below if path.name != "__pycache__" and not (path / "__init__.py").exists()]
    return [folder for folder in [SHARED_TESTS] + loose if list(folder.rglob("test_*.py"))]


def main():
    suite = unittest.TestSuite([discover(ROOT / "tests", ROOT)])
    own = suite.countTestCases()
    for folder in shared_folders():
        suite.addTest(discover(folder, folder))
    result = unittest.TextTestRunner(verbosity=1).run(suite)
    return 0 if own > 0 and result.wasSuccessful() else 1


if __name__ == "__main__":
    sys.exit(main())
