"""Points 17, 18, 2 and 3: all callers told from a table, a row, boxes and a pile; where the reader is astray."""

import unittest

from frameback.errors import Astray, FrameError
from frameback.reader import callers
from frameback.tables import START, Table
from tests.samples import BOXES

CELL = [2 ** (8 + cell) for cell in range(4)]


def boxes_with(changes):
    """Boxes that hold 10 to 17, but for these."""
    return [changes.get(box, BOXES[box]) for box in range(8)]


class Callers(unittest.TestCase):
    def tells(self, entries, row, boxes, pile, expected):
        table = Table(entries, {1: 0})
        handed = (list(boxes), list(pile))
        answer = callers(table, row, *handed)
        self.assertEqual(answer, expected)
        self.assertIs(answer.__class__, list)
        for caller in answer:
            self.assertIs(caller.__class__, tuple)
            self.assertIs(caller[1].__class__, tuple)
        self.assertEqual(handed, (list(boxes), list(pile)))
        self.assertEqual((table.entries, table.landings), (list(entries), {1: 0}))
        self.assertEqual(callers(table, row, *handed), answer)

    def test_of_home_there_are_none(self):
        self.tells([], 0, BOXES, [], [])
        self.tells([], 0, BOXES, [1, 2, 3], [])
        self.tells([START, None], 2, BOXES, [], [])

    def test_one_caller_at_the_start(self):
        self.tells([START, None, START], 0, boxes_with({7: 3}), [], [(3, (14, 15, 16), 0)])
        self.tells([START, None, START], 2, boxes_with({7: 3}), [5, 6], [(3, (14, 15, 16), 2)])

    def test_one_caller_by_cells_of_the_piece(self):
        entry = (3, CELL[0], (CELL[1], 2, CELL[2]))
        self.tells([entry], 0, BOXES, [9, 9, 1, 77, 78], [(1, (77, 11, 78), 2)])
        self.tells([entry], 0, BOXES, [1, 77, 78], [(1, (77, 11, 78), 0)])

    def test_every_box_is_a_place_for_the_row_that_comes_next(self):
        for box in range(8):
            self.tells([(0, 2 ** box, (16, 32, 64))], 0, boxes_with({box: 1}), [],
                       [(1, tuple(boxes_with({box: 1})[4:7]), 0)])
            self.tells([(0, 128, (2 ** box, 32, 64))], 0, boxes_with({7: 1}), [],
                       [(1, (boxes_with({7: 1})[box], 15, 16), 0)])
            self.tells([(0, 128, (16, 2 ** box, 64))], 0, boxes_with({7: 1}), [],
                       [(1, (14, boxes_with({7: 1})[box], 16), 0)])
            self.tells([(0, 128, (16, 32, 2 ** box))], 0, boxes_with({7: 1}), [],
                       [(1, (14, 15, boxes_with({7: 1})[box]), 0)])

    def test_the_lowest_place_counts(self):
        lowest_boxes = (2, 1 + 2 + 4 + CELL[0], (4 + 16 + CELL[1], 8 + 128, 64 + CELL[0] + CELL[1]))
        self.tells([lowest_boxes], 0, boxes_with({0: 1}), [98, 99], [(1, (12, 13, 16), 0)])
        lowest_cells = (4, CELL[0] + CELL[3], (CELL[1] + CELL[2], CELL[2] + CELL[3], CELL[3]))
        self.tells([lowest_cells], 0, BOXES, [96, 1, 97, 98, 99], [(1, (97, 98, 99), 1)])

    def test_a_place_beyond_the_piece_is_not_looked_at_behind_a_lower_one(self):
        beyond = 2 ** 5000
        self.tells([(1, 128 + beyond, (16 + CELL[1], CELL[0] + CELL[1], 64))], 0, boxes_with({7: 1}), [5],
                   [(1, (14, 5, 16), 0)])

    def test_places_that_only_the_row_that_comes_next_has_count_in_callers_too_where_a_kept_box_is_lower(self):
        entries = [START, (1, CELL[0], (16 + 128, 32, 64 + 128))]
        self.tells(entries, 0, boxes_with({7: 1}), [2], [(1, (14, 15, 16), 1), (2, (14, 15, 16), 0)])

    def test_several_callers_and_pieces_of_several_heights(self):
        entries = [
            (1, 1, (CELL[0], 32, 64)),
            (2, CELL[1], (16, CELL[0], 64)),
            (0, 64, (32, 16, 64)),
            (3, CELL[2], (CELL[1], CELL[0], 64 + CELL[0])),
        ]
        boxes = boxes_with({0: 1, 6: 3})
        pile = [31, 32, 4, 21, 2, 11]
        told = [(1, (11, 15, 3), 5), (2, (11, 21, 3), 3), (3, (21, 11, 3), 3)]
        self.tells(entries, 0, boxes, pile, told + [(4, (32, 31, 3), 0)])
        self.tells(entries, 3, BOXES, [9] + pile[:3], [(4, (32, 31, 16), 1)])

    def test_a_function_that_calls_itself(self):
        entries = [START, None, (2, CELL[0], (CELL[1], 32, 64))]
        pile = [3, 50] + [2, 51] * 6
        told = [(2, (14, 15, 16), 14)] + [(2, (51, 15, 16), length) for length in range(12, 0, -2)]
        self.tells(entries, 0, boxes_with({7: 2}), pile, told + [(3, (50, 15, 16), 0)])

    def test_a_deep_pile(self):
        entries = [START, (1, CELL[0], (16, 32, 64))]
        told = [(1, (14, 15, 16), length) for length in range(4000, 0, -1)]
        self.tells(entries, 0, boxes_with({7: 1}), [2] + [1] * 3999, told + [(2, (14, 15, 16), 0)])

    def test_nothing_is_known_of_the_boxes_of_callers_but_of_the_kept_ones(self):
        for box in (4, 5, 6):
            entries = [START, (0, 2 ** box, (16, 32, 64))]
            boxes = boxes_with({box: 2, 7: 1})
            self.tells(entries, 0, boxes, [], [(1, tuple(boxes[4:7]), 0), (2, tuple(boxes[4:7]), 0)])

    def test_the_list_told_is_the_askers_own(self):
        table = Table([START])
        boxes, pile = boxes_with({7: 1}), [5]
        first = callers(table, 0, boxes, pile)
        first.append(7)
        first[0] = None
        boxes[4] = 99
        self.assertEqual(callers(table, 0, boxes_with({7: 1}), pile), [(1, (14, 15, 16), 1)])
        told = callers(table, 0, boxes_with({7: 1}), pile)
        table.entries.clear()
        pile.clear()
        self.assertEqual(told, [(1, (14, 15, 16), 1)])


class GoesAstray(unittest.TestCase):
    def astray(self, entries, row, boxes, pile, stood):
        table = Table(entries)
        handed = (list(boxes), list(pile))
        with self.assertRaises(FrameError) as caught:
            callers(table, row, *handed)
        self.assertIs(caught.exception.__class__, Astray)
        self.assertEqual(caught.exception.row, stood)
        self.assertEqual(handed, (list(boxes), list(pile)))
        self.assertEqual(table.entries, list(entries))

    def both(self, entry, pile):
        """The entry leads astray at the first row, and at a caller's row."""
        self.astray([entry, START], 0, boxes_with({7: 2, 0: 2}), pile, 0)
        self.astray([START, entry, START], 0, boxes_with({7: 1, 4: 3, 5: 3, 6: 3}), pile, 1)

    def test_no_row_of_the_table(self):
        for row in (-1, -2, -10 ** 49, 3, 4, 2000, 10 ** 49):
            self.astray([START, START], row, boxes_with({7: 2}), [], row)
        self.astray([], 1, BOXES, [], 1)
        self.astray([], -1, BOXES, [], -1)

    def test_no_row_of_the_table_at_a_caller(self):
        for row in (3, 4, 2000, 4294967295):
            self.astray([START, START], 0, boxes_with({7: row}), [], row)
        entries = [START, (1, CELL[0], (16, 32, 64))]
        for row in (3, 4294967295):
            self.astray(entries, 0, boxes_with({7: 1}), [row], row)

    def test_an_entry_that_is_none(self):
        self.both(None, [])
        self.both(None, [1, 2, 3])

    def test_a_height_below_0_or_above_the_length(self):
        for pile in ([], [2], [2, 2]):
            for high in (-1, -2, -10 ** 49, len(pile) + 1, len(pile) + 2, 4000, 10 ** 49):
                self.both((high, 16, (16, 32, 64)), pile)

    def test_a_height_of_just_the_length_does_not(self):
        for pile in ([], [2], [2, 2]):
            table = Table([(len(pile), 128, (16, 32, 64))])
            self.assertEqual(callers(table, 0, boxes_with({7: 1}), pile), [(1, (14, 15, 16), 0)])

    def test_the_height_of_a_callers_piece_above_what_is_left(self):
        entries = [(2, 128, (16, 32, 64)), (2, 16, (16, 32, 64))]
        self.astray(entries, 0, boxes_with({7: 1, 4: 2}), [1, 1, 1], 1)

    def test_a_set_without_places(self):
        for places in (0, -1, -2, -128, -2 ** 5000):
            self.both((0, places, (16, 32, 64)), [])
            self.both((0, 16, (places, 32, 64)), [])
            self.both((0, 16, (16, places, 64)), [])
            self.both((0, 16, (16, 32, places)), [])

    def test_a_cell_not_within_the_piece(self):
        for places in (CELL[1], CELL[1] + CELL[2], CELL[2], 2 ** 5000):
            self.both((1, places, (16, 32, 64)), [2, 2, 2, 2])
            self.both((1, 16, (places, 32, 64)), [2, 2, 2, 2])
            self.both((1, 16, (16, places, 64)), [2, 2, 2, 2])
            self.both((1, 16, (16, 32, places)), [2, 2, 2, 2])
        self.both((0, CELL[0], (16, 32, 64)), [2, 2])

    def test_a_box_of_which_nothing_is_known(self):
        boxes = boxes_with({7: 1, 4: 2, 0: 2})
        for box in (0, 1, 2, 3, 7):
            # A kept box or a cell of the set is no help where the lowest place is such a box.
            for more in (0, CELL[0], 2 ** 7):
                places = 2 ** box | more
                self.astray([START, (1, places, (16, 32, 64))], 0, boxes, [2], 1)
                self.astray([START, (1, 16, (places, 32, 64))], 0, boxes, [2], 1)
                self.astray([START, (1, 16, (16, places, 64))], 0, boxes, [2], 1)
                self.astray([START, (1, 16, (16, 32, places))], 0, boxes, [2], 1)

    def test_at_the_third_row(self):
        entries = [START, (1, CELL[0], (16, 32, 64)), None]
        self.astray(entries, 0, boxes_with({7: 1}), [2], 2)

    def test_5000_callers(self):
        # Row 0 is its own caller for ever.
        self.astray([(0, 16, (16, 32, 64)), START], 0, boxes_with({4: 0}), [], 0)
        self.astray([(0, 16, (16, 32, 64)), (0, 32, (16, 32, 64))], 1, boxes_with({4: 0, 5: 0}), [], 0)

    def test_5000_callers_are_told_and_5001_lead_astray(self):
        # Each cell of the pile but the lowest tells two callers, one by row 1 and one by row 2; HOME is 3.
        entries = [START, (1, CELL[0], (16, 32, 64)), (0, 16, (16, 32, 64))]
        boxes = boxes_with({4: 1, 7: 1})
        told = callers(Table(entries), 0, boxes, [3] + [2] * 2499)
        self.assertEqual(len(told), 5000)
        self.assertEqual(told[-2:], [(1, (1, 15, 16), 1), (3, (1, 15, 16), 0)])
        self.assertEqual(len(callers(Table(entries), 1, boxes, [3] + [2] * 2499)), 4999)
        self.astray(entries, 1, boxes, [3] + [2] * 2500, 1)
        self.astray(entries, 0, boxes, [3] + [2] * 2500, 2)


if __name__ == "__main__":
    unittest.main()
