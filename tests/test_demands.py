import itertools
import random
import unittest

from tests.samples import any_values, told
from whatleaves.acts import Acts
from whatleaves.demands import Demands
from whatleaves.errors import TooMany

PA = ("p", None, "a")
PB = ("p", "a", "b")
PR = ("p", None, "returns")
QA = ("q", None, "a")
QR = ("q", "b", "returns")
ROWS = [("p", None, "returns"), ("p", None, "a"), ("p", "a", "b"), ("p", "b", "a"), ("q", None, "returns"), ("q",
    None, "a"), ("q", "a", "a"), ("q", "b", "a")]


def subsets(rows):
    return [Acts(*part) for many in range(len(rows) + 1) for part in itertools.combinations(rows, many)]


def rows_of(demands):
    return [one.rows for one in demands.sets]


class TestDemands(unittest.TestCase):

    def setUp(self):
        self.random = random.Random(3)

    def some(self, rows=ROWS):
        many = self.random.randrange(7)
        return Demands(*[Acts(*self.random.sample(rows, self.random.randrange(5))) for _ in range(many)])

    def test_example(self):
        self.assertEqual(Demands(Acts(PA), Acts(PA, PB)).sets, (Acts(PA),))
        self.assertEqual(Demands(Acts(PA, PB), Acts(PA)).sets, (Acts(PA),))

    def test_only_the_least_sets(self):
        for _ in range(200):
            sets = [Acts(*self.random.sample(ROWS, self.random.randrange(6))) for _ in range(self.random.randrange(9))]
            least = [one for one in sets if not any(other.within(one) and other != one for other in sets)]
            self.assertEqual(set(rows_of(Demands(*sets))), {one.rows for one in least})
            self.assertEqual(len(Demands(*sets)), len({one.rows for one in least}))

    def test_order(self):
        sets = [Acts(QA, PB), Acts(QR), Acts(PB, PR), Acts(PA, PR, QA), Acts(PB, PA), Acts(("p", "b", "b")), Acts(PR,
            ("pp", None, "a")), Acts(("p", "b", "a"))]
        expected = [Acts(("p", "b", "a")), Acts(("p", "b", "b")), Acts(QR), Acts(PR, PB), Acts(PR, ("pp", None, "a")),
            Acts(PA, PB), Acts(PB, QA), Acts(PR, PA, QA)]
        for _ in range(20):
            self.random.shuffle(sets)
            self.assertEqual(rows_of(Demands(*sets)), [one.rows for one in expected])

    def test_too_many(self):
        nine = [Acts((f"p{'abcdefghi'[k]}".replace("pa", "p"), None, "a")) for k in range(9)]
        self.assertEqual(len(Demands(*nine[:8])), 8)
        self.assertEqual(told(TooMany, Demands, *nine), ("acts", 8))
        self.assertEqual(told(TooMany, Demands.made, nine[::-1]), ("acts", 8))
        together = nine[0] | nine[1] | nine[2] | nine[3] | nine[4] | nine[5] | nine[6] | nine[7]
        self.assertEqual(Demands(together).sets, (together,))
        self.assertEqual(told(TooMany, Demands, together | nine[8]), ("acts", 8))
        # A set that is dropped does not count.
        self.assertEqual(Demands(nine[0], nine[0] | nine[8], *nine[1:8]), Demands(*nine[:8]))
        self.assertEqual(Demands(together | nine[8], nine[8]), Demands(nine[8]))
        self.assertEqual(Demands(Acts(), *nine), Demands.always())
        self.assertEqual(told(TooMany, Demands, together, nine[8]), ("acts", 8))

    def test_always_and_never(self):
        self.assertEqual((Demands.always().sets, Demands.never().sets), ((Acts(),), ()))
        self.assertEqual((Demands(), Demands(Acts())), (Demands.never(), Demands.always()))
        self.assertNotEqual(Demands.never(), Demands.always())
        self.assertEqual(Demands(Acts(PA), Acts()), Demands.always())
        for acts in (Acts(), Acts(PA)):
            self.assertIs(Demands.always()(acts), True)
            self.assertIs(Demands.never()(acts), False)

    def test_made(self):
        self.assertEqual(Demands.made([Acts(PA, PB), Acts(QA)]), Demands(Acts(QA), Acts(PA, PB)))
        self.assertEqual(Demands.made(sets=()), Demands.never())

    def test_call(self):
        demands = Demands(Acts(PA, PB), Acts(QA))
        for acts, met in ((Acts(), False), (Acts(PA), False), (Acts(PA, PB), True), (Acts(QA, PA), True), (Acts(PB, QR),
            False)):
            self.assertIs(demands(acts), met)
        self.assertTrue(demands(acts=Acts(QA)))

    def test_len_items_and_equal(self):
        demands = Demands(Acts(PA, PB), Acts(QA))
        self.assertEqual((len(demands), demands[0], demands[1]), (2, Acts(QA), Acts(PA, PB)))
        self.assertIsInstance(demands.sets, tuple)
        self.assertEqual((len(Demands.always()), len(Demands.never())), (1, 0))
        self.assertTrue(demands == Demands(Acts(QA), Acts(PB, PA), Acts(QA, PA)))
        self.assertFalse(demands == Demands(Acts(QA)))
        self.assertEqual([x for x in any_values() if x == demands or demands == x], [])
        with self.assertRaises(TypeError):
            list(demands)

    def test_operators(self):
        for _ in range(60):
            one, other = self.some(), self.some()
            either, both = one | other, one & other
            for acts in subsets(ROWS):
                self.assertEqual(either(acts), one(acts) or other(acts))
                self.assertEqual(both(acts), one(acts) and other(acts))
            self.assertEqual(either, Demands(*either.sets))
            self.assertEqual(both, Demands(*both.sets))
        self.assertEqual(Demands.never() | Demands(Acts(PA)), Demands(Acts(PA)))
        self.assertEqual(Demands.always() | Demands(Acts(PA)), Demands.always())
        self.assertEqual(Demands.never() & Demands(Acts(PA)), Demands.never())
        self.assertEqual(Demands.always() & Demands(Acts(PA)), Demands(Acts(PA)))

    def test_errors_of_operators(self):
        five = [Acts(row) for row in ROWS[:5]]
        more = [Acts(("r", None, name)) for name in ("a", "b", "c", "d")]
        for method in (Demands.__or__, Demands.__and__):
            self.assertEqual(told(TooMany, method, Demands(*five), Demands(*more)), ("acts", 8))
            self.assertIsNone(told(TooMany, method, Demands(*five), Demands(*more[:3])))
        self.assertEqual(Demands(*five) | Demands.always(), Demands.always())

    def test_great_products(self):
        fours = Demands(*[Acts(*part) for part in itertools.combinations(ROWS, 4)])
        self.assertEqual(len(fours), 70)
        self.assertEqual(fours & fours, fours)
        self.assertEqual(fours.dual(), Demands(*[Acts(*part) for part in itertools.combinations(ROWS, 5)]))
        others = fours.renamed({"p": "r", "q": "s"})
        self.assertEqual(told(TooMany, Demands.__and__, fours, others), ("acts", 8))

    def test_dual(self):
        self.assertEqual(Demands.never().dual(), Demands.always())
        self.assertEqual(Demands.always().dual(), Demands.never())
        self.assertEqual(Demands(Acts(PA), Acts(QA, QR)).dual(), Demands(Acts(PA, QA), Acts(PA, QR)))
        for _ in range(60):
            demands = self.some()
            dual = demands.dual()
            for acts in subsets(ROWS):
                meets = all(any(row in acts for row in one.rows) for one in demands.sets)
                self.assertEqual(dual(acts), meets)
            self.assertEqual(dual.dual(), demands)

    def test_filled(self):
        demands = Demands(Acts(PA, QA), Acts(PB, QA), Acts(PA, PB, QR), Acts(QR, QA))
        self.assertEqual(demands.filled("p", Acts(PA)), Demands(Acts(QA)))
        self.assertEqual(demands.filled("p", Acts(PA, PB)), Demands(Acts(QA), Acts(QR)))
        self.assertEqual(demands.filled("p", Acts(QA, QR)), Demands(Acts(QR, QA)))
        self.assertEqual(demands.filled("x", Acts(PA)), demands)
        self.assertEqual(demands.filled(callback="q", acts=Acts(QA)), Demands(Acts(PA), Acts(PB)))
        self.assertEqual(demands.filled("q", Acts()), Demands.never())
        self.assertEqual(Demands(Acts(PA)).filled("p", Acts(PA)), Demands.always())
        many = Acts(*[("p", None, "p" + letter) for letter in "abcdefghijkl"], PA)
        self.assertEqual(Demands(Acts(PA, QA)).filled("p", many), Demands(Acts(QA)))

    def test_filled_is_met_with_the_acts_that_are_settled(self):
        for _ in range(60):
            demands, settled = self.some(), Acts(*self.random.sample(ROWS, 4))
            of_p = Acts(*[row for row in settled.rows if row[0] == "p"])
            for acts in subsets(ROWS[4:]):
                self.assertEqual(demands.filled("p", settled)(acts), demands(acts | of_p))

    def test_renamed(self):
        demands = Demands(Acts(PA, QA), Acts(QR))
        self.assertEqual(demands.renamed({"p": "x"}), Demands(Acts(("x", None, "a"), QA), Acts(QR)))
        self.assertEqual(demands.renamed({"p": "q", "q": "p"}), Demands(Acts(PA, QA), Acts(("p", "b", "returns"))))
        # Two acts become one.
        self.assertEqual(demands.renamed({"p": "q"}), Demands(Acts(QA), Acts(QR)))
        self.assertEqual(Demands(Acts(PA, QA), Acts(PA, QR)).renamed({"q": "p"}), Demands(Acts(PA)))
        words = {"q": "z", "y": "p"}
        self.assertEqual(demands.renamed(words=words), Demands(Acts(PA, ("z", None, "a")), Acts(("z", "b", "returns"))))
        self.assertEqual(words, {"q": "z", "y": "p"})
        self.assertEqual(demands.renamed({}), demands)

    def test_nothing_is_changed(self):
        sets = [Acts(PA, PB), Acts(QA)]
        demands = Demands.made(sets)
        sets.append(Acts())
        demands | Demands(Acts(PA))
        demands & Demands(Acts(PA))
        demands.dual(), demands.filled("p", Acts(PA)), demands.renamed({"p": "q"})
        self.assertEqual(demands, Demands(Acts(QA), Acts(PA, PB)))


if __name__ == "__main__":
    unittest.main()
