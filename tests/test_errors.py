import unittest

from timekernel import errors
from timekernel.errors import KernelError, NoRow

NAMES = """NoFragile NoWidth NoLooks NoCycle NoRate NoReading NoLine NoProcessor NoTick NoLevels NoClock NoSlew
Stopped NotStopped NoSlack NoPeriod NoTimer NoWindow NoSpan NoProcess NoThread NoQuantum NoKernel NoCall TooMany
NoRow""".split()


class Errors(unittest.TestCase):
    def test_all_errors_stand_directly_under_kernel_error(self):
        self.assertEqual(KernelError.__bases__, (ValueError,))
        for name in NAMES:
            self.assertEqual(getattr(errors, name).__bases__, (KernelError,), name)

    def test_there_is_no_other_error(self):
        found = [name for name, value in vars(errors).items() if isinstance(value, type)]
        self.assertEqual(sorted(found), sorted(NAMES + ["KernelError"]))

    def test_errors_are_defined_in_their_file(self):
        for name in NAMES + ["KernelError"]:
            self.assertEqual(getattr(errors, name).__module__, "timekernel.errors")

    def test_each_takes_a_message(self):
        for name in NAMES + ["KernelError"]:
            error = getattr(errors, name)("why it is")
            self.assertEqual(str(error), "why it is")
            self.assertIsInstance(error, ValueError)

    def test_row_has_a_line(self):
        self.assertEqual(NoRow("why").line, 0)
        self.assertEqual(NoRow("why", 7).line, 7)
        self.assertEqual(NoRow(why="why", line=8).line, 8)
        self.assertEqual(str(NoRow("why", 7)), "why")
