"""Run all files test_*.py under some folders; the last row says how many tests passed and how many failed."""

import os
import subprocess
import sys
import unittest


def stems_in(folder):
    """Return the sorted names of the test modules of a folder."""
    return sorted(name[:-3] for name in os.listdir(folder) if name.startswith("test_") and name.endswith(".py"))


def folders_with_tests(top):
    """Return the folders under top, itself among them, that hold a test."""
    return sorted(folder for folder, _, _ in os.walk(top) if stems_in(folder))


class Counting(unittest.TextTestResult):
    """Counts the tests that passed."""

    passed = 0

    def addSuccess(self, test):
        super().addSuccess(test)
        self.passed += 1


def run_here(folder):
    """Run the tests of one folder; the last row has how many passed and failed."""
    sys.path.insert(0, os.path.abspath(folder))
    suite = unittest.defaultTestLoader.loadTestsFromNames(stems_in(folder))
    result = unittest.TextTestRunner(stream=sys.stdout, resultclass=Counting).run(suite)
    failed = len(result.failures) + len(result.errors) + len(result.unexpectedSuccesses)
    print(result.passed, failed)


def run_folder(folder):
    """Run one folder in a process of its own, as two folders may have modules of one name."""
    ran = subprocess.run([sys.executable, __file__, "--here", folder], stdout=subprocess.PIPE, text=True)
    rows = ran.stdout.rstrip().split("\n")
    print(f"{folder}:", *rows[:-1], sep="\n")
    words = rows[-1].split()
    if ran.returncode != 0 or len(words) != 2:
        print(rows[-1])
        return 0, 1
    return int(words[0]), int(words[1])


def main(tops):
    """Run all folders under some; return whether all passed, and some did."""
    counts = [run_folder(folder) for top in tops for folder in folders_with_tests(top)]
    passed, failed = sum(count[0] for count in counts), sum(count[1] for count in counts)
    print(f"{passed} passed, {failed} failed")
    return passed > 0 and failed == 0


if __name__ == "__main__":
    if sys.argv[1] == "--here":
        run_here(sys.argv[2])
    else:
        sys.exit(0 if main(sys.argv[1:]) else 1)
