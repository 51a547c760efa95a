"""[17] Writing slips: the one that is there, or else a new one behind all."""

import unittest

from stillweb.slips import slip_for
from tests.moves import far, num, slip
from tests.samples import all_plain

SLIPS = ((4, ()), (6, (slip(0),)), (6, (num(9),)), (6, (num(9), far(9))), (1, ()), (6, (far(9),)))


class SlipFor(unittest.TestCase):
    def tells(self, slips, one, k, then):
        told = slip_for(slips, one)
        self.assertEqual(told, (k, then))
        self.assertIs(type(told), tuple)
        self.assertIs(type(told[0]), int)
        self.assertTrue(all_plain(told))

    def test_one_that_is_there(self):
        for k, one in enumerate(SLIPS):
            self.tells(SLIPS, one, k, SLIPS)

    def test_one_that_is_there_twice(self):
        self.tells(((4, ()), (5, ()), (5, ())), (5, ()), 1, ((4, ()), (5, ()), (5, ())))
        for k, one in enumerate(SLIPS):
            self.tells(SLIPS + (one,), one, k, SLIPS + (one,))
            self.tells(SLIPS + SLIPS[::-1], one, k, SLIPS + SLIPS[::-1])
        self.tells(((4, ()),) * 7, (4, ()), 0, ((4, ()),) * 7)

    def test_another_gate(self):
        for gate in (0, 5, 7, 40):
            for one in SLIPS:
                self.tells(SLIPS, (gate, one[1]), 6, SLIPS + ((gate, one[1]),))

    def test_other_entries(self):
        for entries in ((slip(1),), (num(0),), (num(8),), (far(0),), (slip(0), num(9)), (far(9), num(9)),
                        (num(9), far(9), num(9)), ()):
            self.tells(SLIPS, (6, entries), 6, SLIPS + ((6, entries),))
        self.tells(SLIPS, (4, (num(0),)), 6, SLIPS + ((4, (num(0),)),))

    def test_none_yet(self):
        self.tells((), (3, ()), 0, ((3, ()),))
        self.tells((), (3, (num(1), far(2))), 0, ((3, (num(1), far(2))),))

    def test_one_behind_the_other(self):
        slips = ()
        for turn in range(3):
            for gate in range(70):
                kept = (slip(gate - 1), num(gate)) if gate else ()
                k, slips = slip_for(slips, (gate, kept))
                self.assertEqual(k, gate)
        self.assertEqual(len(slips), 70)

    def test_hundreds_deep_within_one_another(self):
        slips = ((5, ()),)
        for k in range(700):
            told, slips = slip_for(slips, (5, (slip(k),)))
            self.assertEqual(told, k + 1)
        self.tells(slips, (5, (slip(650),)), 651, slips)
        self.tells(slips, (5, (slip(700),)), 701, slips + ((5, (slip(700),)),))

    def test_nothing_is_changed_or_kept(self):
        slips = ((4, ()),)
        slip_for(slips, (5, ()))
        self.assertEqual(slips, ((4, ()),))
        self.tells(slips, (6, ()), 1, ((4, ()), (6, ())))
        self.tells(slips, (5, ()), 1, ((4, ()), (5, ())))


if __name__ == "__main__":
    unittest.main()
