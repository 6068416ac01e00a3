"""Runs each test file in a process of its own and prints how many tests passed and failed."""

import os
import re
import subprocess
import sys
from concurrent.futures import ThreadPoolExecutor
from pathlib import Path

ROOT = Path(__file__).resolve().parent.parent


def test_files():
    """The project's own test files, then the shared ones."""
    own = sorted((ROOT / "tests").rglob("test_*.py"))
    shared = sorted((ROOT.parent / "shared" / "tests").rglob("test_*.py"))
    return own + shared


def run_file(path):
    """(path, passed, failed, output) of one test file."""
    # a process for each file: files of the two folders may have the same name
    command = [sys.executable, "-B", "-m", "unittest", "discover", "-s", str(path.parent), "-p", path.name]
    result = subprocess.run(command, cwd=ROOT, capture_output=True, text=True)
    output = result.stdout + result.stderr
    ran = re.search(r"^Ran (\d+) tests?", output, re.MULTILINE)
    many = int(ran.group(1)) if ran else 0
    failed = sum(int(n) for n in re.findall(r"(?:failures|errors)=(\d+)", output.rsplit("Ran ", 1)[-1]))
    if (result.returncode != 0 or many == 0) and failed == 0:
        failed = 1
    # errors of a whole class stand beside the tests that ran
    return path, max(0, many - failed), failed, output


def main():
    files = test_files()
    with ThreadPoolExecutor(os.cpu_count() or 1) as pool:
        results = list(pool.map(run_file, files))
    for path, passed, failed, output in results:
        print(f"{path.name}: {passed} passed, {failed} failed")
        if failed:
            print(output)
    passed = sum(result[1] for result in results)
    failed = sum(result[2] for result in results)
    print(f"{passed} passed, {failed} failed")
    return 1 if failed or not passed else 0


if __name__ == "__main__":
    sys.exit(main())
