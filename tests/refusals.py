"""Walks of any sort that don't come out: what refuses them, and which of two refusals comes first."""

from stillweb.errors import NoStep, TooLong
from stillweb.gates import on
from stillweb.reader import read
from stillweb.terms import free
from stillweb.webs import is_web, laid
from tests.moves import web_of
from tests.samples import many_terms
from tests.walks import each_move

# Programs whose kinds don't fit, and by how many moves their walks come to a stop without a next one.
STUCK = (
    ("inputs tell ( fn x num x )", 0),
    ("inputs tell ( call 5 6 )", 1),
    ("inputs n tell ( call n n )", 1),
    ("inputs tell ( + ( fn x num x ) 1 )", 1),
    ("inputs tell ( + 1 ( fn x num x ) )", 3),
    ("inputs tell ( if ( fn x num x ) 1 2 )", 1),
    ("inputs tell ( if 0 1 ( fn x num x ) )", 3),
    ("inputs tell ( let f 3 ( call f 3 ) )", 3),
    ("inputs tell ( let f 3 ( + f ( call f 3 ) ) )", 8),
    ("inputs tell ( rec x num ( fn y num y ) )", 1),
    ("inputs tell ( call ( fn f num ( call f 1 ) ) 5 )", 5),
    ("inputs tell ( call ( fn f num ( + f 1 ) ) ( fn x num x ) )", 5),
)

WITHOUT_END = (
    ("inputs tell ( rec x num x )", ()),
    ("inputs tell ( + 1 ( rec x num ( + x 1 ) ) )", ()),
    ("inputs n tell ( call ( rec f < num num > ( fn x num ( call f x ) ) ) n )", (3,)),
    ("inputs n tell ( rec x num ( if n x 0 ) )", (1,)),
)


class WalkRefusals:
    """Beside a TestCase: what tells a walk, and the moves one by one by which it should go."""

    tell = None
    move = on

    def told_by(self, *given):
        return type(self).tell(*given)

    def moves_of(self, web, values, most=5000):
        return each_move(web, values, move=type(self).move, most=most)

    def test_without_an_end(self):
        for text, values in WITHOUT_END:
            for most in (1, 2, 77, 2000):
                with self.assertRaises(TooLong) as caught:
                    self.told_by(web_of(text), values, most)
                self.assertEqual(caught.exception.most, most)
        self.assertEqual(self.told_by(web_of(WITHOUT_END[-1][0]), (0,), 2000)[0], 0)

    def test_kinds_that_do_not_fit(self):
        for text, due in STUCK:
            names, term = read(text)
            web, values = laid((names, term)), (4,) * len(names)
            self.assertTrue(is_web(web, len(names)))
            moves = len(self.moves_of(web, values)[0]) - 1
            self.assertLessEqual(moves, due, text)
            self.assertEqual(len(each_move(web, values)[0]) - 1, due, text)
            # No more than `most` moves come where there is no next one.
            for most in (moves, moves + 1, 2000):
                if most:
                    self.assertRaises(NoStep, self.told_by, web, values, most)
            for most in range(1, moves):
                self.assertRaises(TooLong, self.told_by, web, values, most)

    def test_no_step_and_too_long_over_many_webs(self):
        seen = {"told": 0, "NoStep": 0, "TooLong": 0}
        for at, term in enumerate(many_terms()[::5]):
            names = tuple(free(term))
            web, values = laid((names, term)), (at % 3, 1)[:len(names)]
            stops, slips = self.moves_of(web, values, 31)
            for most in (len(stops) - 1, len(stops) - 2, 30):
                if not 1 <= most <= 30:
                    continue
                due = "told" if stops[-1][:2] == (0, "out") else "NoStep"
                due = due if most >= len(stops) - 1 else "TooLong"
                try:
                    self.assertEqual(self.told_by(web, values, most), (stops[-1][2], stops, slips))
                    told = "told"
                except (NoStep, TooLong) as refusal:
                    told = type(refusal).__name__
                self.assertEqual(told, due)
                seen[told] += 1
        self.assertGreater(min(seen.values()), 100)
