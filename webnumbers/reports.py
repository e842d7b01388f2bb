"""Reports: the entries of a desk as lines of text."""

from webnumbers.measuring import measure_poly

MODULUS = 1000000
MAX_SHOWN = 40


def report(desk):
    """Return the list of the lines of the report, the header first."""
    lines = [report_line("name", "form", "terms", "pieces", "nodes", "value")]
    for name in desk:
        form, _, _ = desk.form_of(name).partition(" ")
        terms, total, nodes, shown = value_columns(desk.book, desk[name])
        lines.append(report_line(name, form, terms, total, nodes, shown))
    return lines


def report_line(name, form, terms, total, nodes, shown):
    """Return the line with the six columns."""
    return f"{name:<12} {form:<8} {terms:>5} {total:>12} {nodes:>6} {shown}"


def value_columns(book, value):
    """Return the texts of the last four columns."""
    if value is None:
        return ("-", "-", "-", "none")
    nodes, _, _ = measure_poly(book, value, MODULUS)
    return (str(len(value.terms)), f"{value.total:,}", str(nodes), str(value)[:MAX_SHOWN])
