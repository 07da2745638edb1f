from loopbounds import limits
from tests.helping import Checks


class LimitsTest(Checks):
    def test_constants(self):
        wanted = {
            "VARIABLES": 6, "LENGTH": 12, "PERIOD": 6, "ROUNDS": 1000, "BASES": 12, "PLAIN": 1000, "SMALL": 9,
        }
        for name in wanted:
            self.check_same(getattr(limits, name), wanted[name])
        self.assertEqual([name for name in vars(limits) if not name.startswith("_")], list(wanted))
