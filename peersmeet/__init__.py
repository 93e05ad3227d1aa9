"""Peersmeet: peers on a ring that keep, lose, part and meet again."""
