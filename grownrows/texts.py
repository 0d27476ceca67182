"""Texts of rules, of rows and of seen cells."""


def show_rule(rule):
    """Return the text of a rule."""
    return f"{rule.prime}:" + "".join([f" {coefficient}@{offset}" for coefficient, offset in rule.terms])


def show_row(row):
    """Return the text of a row."""
    return " ".join([f"{place}={value}" for place, value in row]) if row else "-"


def show_seen(seen_cells):
    """Return the text of a list of seen cells."""
    return " ".join([f"{number},{place}={value}" for number, place, value in seen_cells]) if seen_cells else "-"
