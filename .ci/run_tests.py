"""Runs every test_*.py below some folders, prints how many ran, and fails if one fails.

    python3 .ci/run_tests.py FOLDER ...

Each folder with tests has a process of its own, so that files of one name do
not get in each other's way. The first folder must hold a test; the others may
be missing or empty.
"""

import os
import pathlib
import subprocess
import sys
import unittest

ROOT = pathlib.Path(__file__).resolve().parent.parent
COUNTS = "counts:"


def folders_with_tests(top):
    return sorted({str(path.parent.resolve()) for path in pathlib.Path(top).rglob("test_*.py") if path.is_file()})


def run_here(folder):
    """Runs the tests right in one folder; its last line tells how many passed, failed and were skipped."""
    sys.path.insert(0, str(ROOT))
    suite = unittest.TestLoader().discover(folder, pattern="test_*.py", top_level_dir=folder)
    result = unittest.TextTestRunner(stream=sys.stderr, verbosity=1).run(suite)
    failed = len(result.failures) + len(result.errors) + len(result.unexpectedSuccesses)
    skipped = len(result.skipped)
    print(COUNTS, max(0, result.testsRun - failed - skipped), failed, skipped, flush=True)
    return 1 if failed else 0


def run_apart(folder):
    """The counts of one folder's tests; a process that ends without telling them counts as failed."""
    print(f"== {folder}", flush=True)
    environment = {**os.environ, "PYTHONPATH": str(ROOT)}
    command = [sys.executable, __file__, "--here", folder]
    done = subprocess.run(command, cwd=ROOT, env=environment, stdout=subprocess.PIPE, text=True, check=False)
    lines = [line.split() for line in done.stdout.splitlines() if line.startswith(COUNTS)]
    if not lines:
        return 0, 1, 0
    passed, failed, skipped = [int(word) for word in lines[-1][1:]]
    return passed, max(failed, 1 if done.returncode else 0), skipped


def main(tops):
    passed = failed = skipped = 0
    for place, top in enumerate(tops):
        folders = folders_with_tests(top)
        if not folders and place == 0:
            print(f"no test in {top}")
            failed += 1
        for folder in folders:
            counts = run_apart(folder)
            passed, failed, skipped = passed + counts[0], failed + counts[1], skipped + counts[2]
    print(f"{passed + failed + skipped} tests ran")
    print(f"{passed} passed, {failed} failed, {skipped} skipped")
    return 1 if failed or not passed else 0


if __name__ == "__main__":
    sys.exit(run_here(sys.argv[2]) if sys.argv[1] == "--here" else main(sys.argv[1:]))
