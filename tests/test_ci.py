"""That .ci/run runs every test of the project and every test under ../shared/tests, and fails if one fails."""

import pathlib
import shutil
import subprocess
import tempfile
import unittest

RUN = pathlib.Path(__file__).resolve().parent.parent / ".ci" / "run"

PASSES = "import unittest\n\nclass T(unittest.TestCase):\n    def test(self):\n        print('ran {0}')\n"
FAILS = PASSES + "        self.fail('so')\n"
BREAKS = "print('ran {0}')\nimport no_such_module\n"
NEEDS_PACKAGE = "import sumnets.mark\n" + PASSES


class Run(unittest.TestCase):
    def setUp(self):
        self.top = pathlib.Path(tempfile.mkdtemp())
        self.addCleanup(shutil.rmtree, self.top)
        self.main = self.top / "main"
        (self.main / ".ci").mkdir(parents=True)
        shutil.copy(RUN, self.main / ".ci" / "run")
        for folder in (self.main / "tests", self.main / "sumnets", self.top / "shared" / "tests"):
            folder.mkdir(parents=True)
        self.put("main/sumnets/__init__.py", "")
        self.put("main/sumnets/mark.py", "")
        self.put("main/tests/test_a.py", PASSES)
        self.put("main/tests/test_b.py", NEEDS_PACKAGE)
        self.put("shared/tests/test_c.py", NEEDS_PACKAGE)

    def put(self, path, text):
        place = self.top / path
        place.parent.mkdir(parents=True, exist_ok=True)
        place.write_text(text.replace("{0}", place.name))

    def run_ci(self):
        done = subprocess.run(
            ["bash", str(self.main / ".ci" / "run")], cwd=self.top, stdin=subprocess.DEVNULL,
            stdout=subprocess.PIPE, stderr=subprocess.STDOUT, text=True)
        return done.returncode, done.stdout

    def test_all_pass(self):
        code, text = self.run_ci()
        self.assertEqual(code, 0, text)
        for name in ("test_a.py", "test_b.py", "test_c.py"):
            self.assertIn("ran " + name, text)

    def test_one_fails(self):
        for path in ("main/tests/test_a.py", "main/tests/test_z.py", "shared/tests/test_c.py", "shared/tests/test_z.py",
                     "shared/tests/within/test_d.py", "main/tests/within/test_d.py"):
            for text in (FAILS, BREAKS):
                with self.subTest(path):
                    before = (self.top / path).read_text() if (self.top / path).exists() else None
                    self.put(path, text)
                    code, told = self.run_ci()
                    self.assertNotEqual(code, 0)
                    # The others are run all the same.
                    for name in ("test_a.py", "test_b.py", "test_c.py", pathlib.Path(path).name):
                        self.assertIn("ran " + name, told)
                    (self.top / path).unlink()
                    if before is not None:
                        self.put(path, before)

    def test_folders_that_have_gone(self):
        shutil.rmtree(self.top / "shared")
        self.assertNotEqual(self.run_ci()[0], 0)

    def test_a_project_without_tests(self):
        for name in ("test_a.py", "test_b.py"):
            (self.main / "tests" / name).unlink()
        self.assertNotEqual(self.run_ci()[0], 0)

    def test_no_shared_test_yet(self):
        (self.top / "shared" / "tests" / "test_c.py").unlink()
        self.assertEqual(self.run_ci()[0], 0)


if __name__ == "__main__":
    unittest.main()
