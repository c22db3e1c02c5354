"""Points 13 and 2: START, and a table's entries and landings, kept as copies."""

import unittest

from frameback.tables import START, Table


class Tables(unittest.TestCase):
    def test_start(self):
        self.assertEqual(START, (0, 128, (16, 32, 64)))
        self.assertIs(START.__class__, tuple)
        self.assertIs(START[2].__class__, tuple)

    def test_it_has_what_it_was_handed(self):
        entries = [START, None, (2, 256, (16, 544, 64))]
        table = Table(entries, {0: 2, 1: 0})
        self.assertEqual(table.entries, entries)
        self.assertEqual(table.landings, {0: 2, 1: 0})
        self.assertIs(table.entries.__class__, list)
        self.assertIs(table.landings.__class__, dict)

    def test_without_landings(self):
        for table in (Table([START]), Table([START], None), Table([START], {})):
            self.assertEqual(table.landings, {})
            self.assertEqual(table.entries, [START])
        self.assertEqual(Table([]).entries, [])

    def test_by_the_names_of_the_arguments(self):
        table = Table(entries=[None], landings={3: 4})
        self.assertEqual((table.entries, table.landings), ([None], {3: 4}))

    def test_what_was_handed_in_may_be_changed_behind_the_call(self):
        entries, landings = [START, None], {1: 0}
        table = Table(entries, landings)
        entries.append(START)
        entries[0] = None
        landings[1] = 7
        landings[2] = 8
        self.assertEqual(table.entries, [START, None])
        self.assertEqual(table.landings, {1: 0})

    def test_what_is_done_to_a_table_leaves_what_was_handed_in(self):
        entries, landings = [START, None], {1: 0}
        table = Table(entries, landings)
        table.entries.clear()
        table.landings.clear()
        self.assertEqual(entries, [START, None])
        self.assertEqual(landings, {1: 0})

    def test_tables_without_landings_have_each_their_own_dict(self):
        one, other = Table([]), Table([])
        one.landings[1] = 2
        one.entries.append(START)
        self.assertEqual((other.landings, other.entries), ({}, []))
        self.assertEqual((Table([]).landings, Table([]).entries), ({}, []))


if __name__ == "__main__":
    unittest.main()
