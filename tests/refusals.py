"""What the tests of refusals share."""

import unittest

from yearpledge.errors import BadCount, BadPledge, BadRate, BadTable, NoYear, PledgeError

KINDS = (BadTable, BadRate, BadPledge, NoYear, BadCount)


class RefusalCase(unittest.TestCase):
    def assert_refused(self, kind, call, *handed):
        with self.assertRaises(kind) as caught:
            call(*handed)
        refusal = caught.exception
        self.assertIsInstance(refusal, PledgeError)
        self.assertIsInstance(refusal, ValueError)
        for other in KINDS:
            if other is not kind:
                self.assertNotIsInstance(refusal, other)
