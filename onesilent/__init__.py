"""Onesilent: what machines can do together when one of them may fall silent."""
