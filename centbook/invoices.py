"""Invoices of sent days."""

from centbook.pairs import pair_total
from centbook.sheettexts import fraction_text


def sent_rows(sheet, cents):
    """The ascending (line, charge, cents) of the first day of a sheet, for which these cents are sent."""
    state, _, days = sheet
    return tuple([(line[0], charge, many) for line, charge, many in zip(state, days[0], cents)])


def invoice_row(name, charge, cents):
    """The row of a line, or of the total."""
    return f"{name:<8}{fraction_text(charge):>16}{cents:>10,}"


def invoice_text(rows):
    """The invoice of the (line, charge, cents) of a day."""
    written = [invoice_row(name, charge, cents) for name, charge, cents in rows]
    charged = pair_total([charge for _, charge, _ in rows])
    written.append(invoice_row("total", charged, sum([cents for _, _, cents in rows])))
    return "\n".join(written)
