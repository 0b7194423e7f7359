"""Runs all test files, each in a process of its own, and tells how many tests passed."""

import os
import subprocess
import sys
import unittest

TOP = os.path.dirname(os.path.dirname(os.path.abspath(__file__)))
SHARED = os.path.join(os.path.dirname(TOP), "shared", "tests")
PER_FILE = 3000


def test_files(folder):
    found = []
    for where, folders, names in os.walk(folder):
        folders.sort()
        found += [os.path.join(where, name) for name in sorted(names) if name[:5] == "test_" and name[-3:] == ".py"]
    return found


def failed_ids(result):
    wrong = [case for case, text in result.failures + result.errors] + list(result.unexpectedSuccesses)
    # Each failing part of a test stands for that one test.
    return {getattr(case, "test_case", case).id() for case in wrong}


def run_file(path):
    folder, name = os.path.split(path)
    sys.path[:0] = [folder, TOP]
    suite = unittest.defaultTestLoader.loadTestsFromName(name[:-3])
    result = unittest.TextTestRunner(verbosity=1).run(suite)
    failed = len(failed_ids(result))
    # An error outside of the tests, such as one of setUpClass, counts as a failed one, too.
    skipped = len(result.skipped)
    passed = max(result.testsRun - failed - skipped, 0)
    if result.testsRun == 0 and failed == 0:
        print("no test in", path, flush=True)
        failed = 1
    print("COUNT", passed, failed, skipped, flush=True)
    sys.exit(1 if failed else 0)


def counts_of(path):
    try:
        done = subprocess.run([sys.executable, os.path.abspath(__file__), path], cwd=TOP, stdin=subprocess.DEVNULL,
                              stdout=subprocess.PIPE, stderr=subprocess.STDOUT, text=True, timeout=PER_FILE)
    except subprocess.TimeoutExpired:
        print(path, "took too long", flush=True)
        return 0, 1, 0
    lines = done.stdout.splitlines()
    counts = [line.split()[1:] for line in lines if line[:6] == "COUNT "]
    if not counts:
        print(done.stdout, flush=True)
        return 0, 1, 0
    passed, failed, skipped = [int(word) for word in counts[-1]]
    if done.returncode != 0:
        print(done.stdout, flush=True)
        failed = max(failed, 1)
    print(os.path.relpath(path, TOP), passed, "passed", flush=True)
    return passed, failed, skipped


def run_all():
    paths = test_files(os.path.join(TOP, "tests")) + test_files(SHARED)
    totals = [0, 0, 0]
    for path in paths:
        totals = [total + count for total, count in zip(totals, counts_of(path))]
    passed, failed, skipped = totals
    print(f"{passed} passed, {failed} failed, {skipped} skipped", flush=True)
    sys.exit(1 if failed or not passed else 0)


if __name__ == "__main__":
    if len(sys.argv) > 1:
        run_file(sys.argv[1])
    else:
        run_all()
