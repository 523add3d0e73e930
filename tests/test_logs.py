"""[50]: WRITES, the DEEDS made of them, and what lies on a DISK that is torn."""

import itertools
import unittest

from everyversion.cells import cells_of
from everyversion.logs import is_clean, phases_of, torn, torn_behind, writes_between, written
from everyversion.sameness import is_same
from samples import News, turned_about
from tears import ONE, OTHER, PAIRS, all_tears, apply, same, subsets
from versions import store_at


class Logs(News):

    def test_written(self):
        put, take = ("put", ("row", "t", 7), (5,)), ("take", ("row", "t", 8))
        self.assertEqual(self.new(written, turned_about(ONE), ()), ONE)
        self.assertEqual(self.new(written, turned_about(ONE), (put, take)), {**{key: ONE[key] for key in ONE if key != take[1]}, put[1]: (5,)})
        # In their order; to take away what is not there changes nothing.
        self.assertEqual(self.new(written, {}, (("put", ("b",), 1), ("put", ("a",), 3), ("put", ("b",), 2))), {("a",): 3, ("b",): 2})
        self.assertEqual(self.new(written, {}, (("put", ("b",), 1), ("take", ("b",)))), {})
        self.assertEqual(self.new(written, {}, (("take", ("b",)), ("put", ("b",), 1))), {("b",): 1})
        self.assertEqual(self.new(written, {("a",): 1}, [("take", ("b",))]), {("a",): 1})

    def test_writes_between(self):
        self.assertEqual(self.told(writes_between, turned_about(ONE), turned_about(OTHER)), (
            ("put", ("row", "t", 7), (5,)), ("take", ("row", "t", 8)), ("put", ("row", "u", 9), (3,))))
        self.assertEqual(self.told(writes_between, OTHER, ONE), (
            ("put", ("row", "t", 7), (1,)), ("put", ("row", "t", 8), (2,)), ("take", ("row", "u", 9))))
        self.assertEqual(self.told(writes_between, {}, {("hidden", 1, 7): 4, ("hidden", 1): True, ("goal",): 1}), (
            ("put", ("goal",), 1), ("put", ("hidden", 1), True), ("put", ("hidden", 1, 7), 4)))
        self.assertEqual(self.told(writes_between, {("row", "t", 7): (), ("row", "t", -7): (), ("row", "a", 9): ()}, {}), (
            ("take", ("row", "a", 9)), ("take", ("row", "t", -7)), ("take", ("row", "t", 7))))
        self.assertEqual(writes_between({("a",): 1}, {("a",): True}), (("put", ("a",), True),))
        self.assertEqual(writes_between({("a",): (0, (False,))}, {("a",): (0, (0,))}), (("put", ("a",), (0, (0,))),))
        self.assertEqual(writes_between({("a",): None}, {("a",): 0}), (("put", ("a",), 0),))
        for one, _ in PAIRS:
            self.assertEqual(self.told(writes_between, one, turned_about(one)), ())
        for one, other in PAIRS:
            writes = writes_between(one, other)
            self.assertEqual([write[1] for write in writes], sorted({write[1] for write in writes}))
            self.assertTrue(same(self.new(written, one, writes), other))
            for some in subsets(writes):
                if len(some) < len(writes):
                    self.assertFalse(same(written(one, some), other))
            # They may be done in any order.
            for order in itertools.permutations(writes):
                self.assertTrue(same(written(one, order), other))

    def test_clean(self):
        for disk in [{}, ONE, OTHER, cells_of(store_at(0)), {("row", "log", 0): ()}, {("logs", 0): 1}, {("marks",): 1}, {("hidden", 1): True}]:
            self.so(is_clean, disk)
            self.not_so(is_clean, {**disk, ("log", 0): ("take", ("a",))})
            self.not_so(is_clean, {**disk, ("log", 12): ("put", ("a",), 1)})
            self.not_so(is_clean, {**disk, ("mark",): 1})
            self.not_so(is_clean, {("mark",): 1, **disk, ("log", 0): ("take", ("a",))})

    def test_phases(self):
        self.assertEqual(self.told(phases_of, turned_about(ONE), OTHER), (
            (("put", ("log", 0), ("put", ("row", "t", 7), (5,))), ("put", ("log", 1), ("take", ("row", "t", 8))),
             ("put", ("log", 2), ("put", ("row", "u", 9), (3,)))),
            (("put", ("mark",), 3),),
            (("put", ("row", "t", 7), (5,)), ("take", ("row", "t", 8)), ("put", ("row", "u", 9), (3,))),
            (("take", ("mark",)),),
            (("take", ("log", 0)), ("take", ("log", 1)), ("take", ("log", 2)))))
        for one, other in PAIRS:
            self.assertEqual(self.told(phases_of, one, turned_about(one)), ())
            phases = self.told(phases_of, one, other)
            writes = writes_between(one, other)
            self.assertEqual([len(phase) for phase in phases], [len(writes), 1, len(writes), 1, len(writes)])
            self.assertEqual(phases[2], writes)
            disk = one
            for phase in phases:
                disk = apply(disk, phase)
            self.assertTrue(same(disk, other))
        # The log of more than ten.
        many = {("row", "t", key): () for key in range(12)}
        self.assertEqual([write[1] for write in phases_of({}, many)[4]], [("log", index) for index in range(12)])

    def test_torn(self):
        for one, other in PAIRS:
            phases = phases_of(one, other)
            seen = []
            for index, phase in enumerate(phases):
                for lot in subsets(range(len(phase))):
                    seen.append(self.new(torn, turned_about(one), phases, index, tuple(lot)))
            expected = all_tears(one, phases)
            self.assertEqual(len(seen), len(expected))
            self.assertTrue(all(same(told, wanted) for told, wanted in zip(seen, expected)))
        phases = phases_of(ONE, OTHER)
        self.assertEqual(torn(ONE, phases, 0, ()), ONE)
        self.assertEqual(torn(ONE, phases, 4, (0, 1, 2)), OTHER)
        self.assertEqual(sorted(torn(ONE, phases, 3, ())), sorted(list(OTHER) + [("log", 0), ("log", 1), ("log", 2), ("mark",)]))

    def test_torn_behind(self):
        phases = phases_of(ONE, OTHER)
        writes = [write for phase in phases for write in phase]
        for many in range(14):
            self.assertEqual(self.new(torn_behind, ONE, phases, many), apply(ONE, writes[:many]))
        self.assertEqual(torn_behind(ONE, phases, 10 ** 30), OTHER)


class Sameness(News):

    def test_is_same(self):
        things = [None, True, False, 0, 1, -1, "", "1", (), [], {}, (0,), (False,), [0], [False], {0: 1}, {False: 1}, {0: True}, {1: 0}, (1, (2, (True,))),
                  (1, (2, (1,))), ((), ()), {"a": [{}]}, {"a": [()]}, {(1, 2): 3}, {(True, 2): 3}, {0: 1, 2: 3}, [1, 2], [1, 2, 3], (1, 2)]
        for at, one in enumerate(things):
            for place, other in enumerate(things):
                self.assertIs(self.told(is_same, one, other), at == place, (one, other))
        self.so(is_same, {1: 2, 0: (1,)}, {0: (1,), 1: 2})
        deep, other = (), ()
        for _ in range(5000):
            deep, other = (deep,), (other,)
        self.assertIs(is_same(deep, other), True)
        self.assertIs(is_same(deep, (other,)), False)


if __name__ == "__main__":
    unittest.main()
