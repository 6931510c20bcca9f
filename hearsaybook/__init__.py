"""Hearsaybook: who is alive, told by hearsay among houses over a bad road."""
