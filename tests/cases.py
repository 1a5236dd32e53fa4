"""What several cases of tests check in the same way."""

import unittest

from feedreader.errors import FeedError


class RefusalCase(unittest.TestCase):
    """Cases that check what is refused."""

    def check_refused(self, kind, fields, call, *values, **named):
        """Checks that a call raises just this kind of error, with these fields."""
        with self.assertRaises(FeedError) as caught:
            call(*values, **named)
        self.assertIs(type(caught.exception), kind)
        for field, value in fields.items():
            self.assertEqual(getattr(caught.exception, field), value)
