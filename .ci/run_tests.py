"""Run all files test_*.py below the folders that are named, and print how many tests ran.

The first folder must hold a test; the others may be empty or missing. Each folder is run in a process
of its own, so that files with the same name in different folders do not meet.
"""

import os
import subprocess
import sys
import unittest

ROOT = os.path.dirname(os.path.dirname(os.path.abspath(__file__)))


def test_names(folder):
    """Return the module names of the test files that stand directly in the folder."""
    files = sorted(os.listdir(folder))
    return [name[:-3] for name in files if name.startswith("test_") and name.endswith(".py")]


def folders_with_tests(top):
    """Return all folders at and below top in which a test file stands."""
    return sorted(folder for folder, _, _ in os.walk(top) if test_names(folder))


def run_here(folder):
    """Run the tests of one folder; the last line that is printed is read by run_apart."""
    sys.path.insert(0, folder)
    suite = unittest.defaultTestLoader.loadTestsFromNames(test_names(folder))
    result = unittest.TextTestRunner(stream=sys.stderr).run(suite)
    failed = len(result.failures) + len(result.errors) + len(result.unexpectedSuccesses)
    print()
    print("counts", result.testsRun, failed, len(result.skipped))


def run_apart(folder):
    """Run the tests of one folder in a new process; return how many ran, failed and were skipped."""
    print(f"tests in {folder}", flush=True)
    paths = [ROOT] + [path for path in [os.environ.get("PYTHONPATH")] if path]
    done = subprocess.run(
        [sys.executable, os.path.abspath(__file__), "--here", os.path.abspath(folder)],
        cwd=ROOT,
        env=dict(os.environ, PYTHONPATH=os.pathsep.join(paths)),
        stdin=subprocess.DEVNULL,
        stdout=subprocess.PIPE,
        text=True,
    )
    words = done.stdout.strip().split("\n")[-1].split(" ")
    if done.returncode != 0 or len(words) != 4 or words[0] != "counts":
        print(f"the tests in {folder} did not end as they should (exit code {done.returncode})")
        return (0, 1, 0)
    return tuple(int(word) for word in words[1:])


def main(tops):
    """Run everything; return the exit code."""
    if not folders_with_tests(tops[0]):
        print(f"no test in {tops[0]}")
        return 1
    counts = [run_apart(folder) for top in tops for folder in folders_with_tests(top)]
    ran, failed, skipped = (sum(column) for column in zip(*counts))
    print(f"{ran} tests ran")
    print(f"{max(0, ran - failed - skipped)} passed, {failed} failed, {skipped} skipped")
    return 0 if failed == 0 and counts[0][0] > 0 else 1


if __name__ == "__main__":
    if sys.argv[1] == "--here":
        run_here(sys.argv[2])
    else:
        sys.exit(main(sys.argv[1:]))
