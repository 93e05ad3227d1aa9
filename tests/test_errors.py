"""Point 8: the classes of the refusals, their families and their fields."""

import unittest

from peersmeet import errors

OF_PEER_ERROR = (
    "NoName NoNumber NoPlace NoText NoTruth NoList NoWord NoCard NoPiece NoPeers NoCircle NoView NoBook NoLog "
    "NoNet NoCries NoSides NoOrder NoPaper NoDeed NoTask NoLine Taken Twice Unlike"
).split()
OF_ABSENT = ["NotThere", "NoPeer", "NotOnRoad"]
OF_BARRED = ["Down", "Stands", "Quiet", "Alone", "NotFound", "Away", "Lacks"]


class Families(unittest.TestCase):
    def test_families_stand_under_pythons_errors_and_take_one_text(self):
        for family, above in (("PeerError", ValueError), ("Absent", KeyError), ("Barred", LookupError)):
            kind = getattr(errors, family)
            self.assertEqual(kind.__bases__, (above,))
            self.assertIsInstance(kind("some text"), above)
            self.assertIn("some text", str(kind("some text")))

    def test_no_family_stands_under_another(self):
        families = (errors.PeerError, errors.Absent, errors.Barred)
        for one in families:
            self.assertEqual([issubclass(one, other) for other in families].count(True), 1)


class Refusals(unittest.TestCase):
    def look_at(self, name, family, field):
        kind = getattr(errors, name)
        self.assertEqual(kind.__bases__, (family,))
        for thing in (None, True, 13, "a", [1], (), {}, object()):
            for error in (kind(thing), kind(**{field: thing})):
                self.assertEqual(list(vars(error)), [field])
                self.assertIs(getattr(error, field), thing)
                self.assertIsInstance(str(error), str)

    def test_straight_under_peer_error(self):
        for name in OF_PEER_ERROR:
            self.look_at(name, errors.PeerError, "found")
        self.look_at("TooMany", errors.PeerError, "many")
        self.look_at("NoRow", errors.PeerError, "at")

    def test_straight_under_absent(self):
        for name in OF_ABSENT:
            self.look_at(name, errors.Absent, "found")

    def test_straight_under_barred(self):
        for name in OF_BARRED:
            self.look_at(name, errors.Barred, "found")
        self.look_at("WrongPiece", errors.Barred, "at")

    def test_each_is_defined_in_this_file(self):
        for name in OF_PEER_ERROR + OF_ABSENT + OF_BARRED + ["TooMany", "NoRow", "WrongPiece"]:
            self.assertEqual(getattr(errors, name).__module__, "peersmeet.errors")


if __name__ == "__main__":
    unittest.main()
