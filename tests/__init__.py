"""The tests of wetfolds."""
