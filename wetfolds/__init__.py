"""Wetfolds: strips with wet ink, folded again and again."""
