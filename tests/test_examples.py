"""The examples at the document's end, as far as they are built."""

import unittest

from plainstore.pasts import Past
from plainstore.plain import ask, columns_at, row_at

PAST = Past([(1, "add", "a", 5), (2, "put", 0, (("a", 7),)), (4, "rename", "a", "b"), (6, "drop", "b")])


class Examples(unittest.TestCase):
    def test_plain_tables(self):
        told = (columns_at(PAST, 4), row_at(PAST, 0, 6), ask(PAST, 0, "a", 4), ask(PAST, 0, "a", 1))
        self.assertEqual(told, ([("b", 5)], {}, "no column", "no row"))


if __name__ == "__main__":
    unittest.main()
