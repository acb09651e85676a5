"""Runs all tests of the project and of ../shared/tests under this Python, and under 3.11 and 3.13 where they are."""

import glob
import os
import shutil
import subprocess
import sys
import unittest

TOP = os.path.dirname(os.path.dirname(os.path.abspath(__file__)))
SHARED = os.path.join(os.path.dirname(TOP), "shared", "tests")


def all_tests():
    suite = unittest.TestSuite()
    suite.addTests(unittest.TestLoader().discover(os.path.join(TOP, "tests"), "test_*.py", TOP))
    if os.path.isdir(SHARED) and any(name.startswith("test_") and name.endswith(".py") for name in os.listdir(SHARED)):
        suite.addTests(unittest.TestLoader().discover(SHARED, "test_*.py", SHARED))
    return suite


def run_here():
    sys.path.insert(0, TOP)
    sys.dont_write_bytecode = True
    found = unittest.TextTestRunner(verbosity=1).run(all_tests())
    bad = len(found.failures) + len(found.errors) + len(found.unexpectedSuccesses)
    skipped = len(found.skipped)
    passed = found.testsRun - bad - skipped
    print(f"Python {sys.version.split()[0]}: {found.testsRun} tests were run", flush=True)
    print(f"{passed} passed, {bad} failed, {skipped} skipped", flush=True)
    return 0 if found.wasSuccessful() and passed > 0 else 1


def works(path, version):
    asked = subprocess.run([path, "-c", "import sys; print('%d.%d' % sys.version_info[:2])"],
                           capture_output=True, text=True)
    return asked.returncode == 0 and asked.stdout.strip() == version


def python_of(version):
    """A Python of this version, if this machine has one that runs."""
    places = [shutil.which(f"python{version}"), *glob.glob(f"/root/.pyenv/versions/{version}.*/bin/python{version}")]
    return next((path for path in places if path and works(path, version)), None)


def main():
    here = "%d.%d" % sys.version_info[:2]
    worst = 0
    for version in ("3.11", "3.13"):
        path = python_of(version)
        if version != here and path is not None:
            worst = max(worst, subprocess.run([path, os.path.abspath(__file__), "here"]).returncode)
    return max(worst, run_here())


if __name__ == "__main__":
    sys.exit(run_here() if sys.argv[1:] == ["here"] else main())
