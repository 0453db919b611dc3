"""Plans explained."""

from leastplans.judging import judged_top
from leastplans.stepceilings import step_ceilings


def explained(block, top):
    """A line for each step of a top that is let, with what it may give and cost; then the price."""
    rows = []
    for path, word, most, price, order in step_ceilings(block, top):
        told = " ".join([str(one) for one in order]) or "none"
        rows.append("  " * len(path) + f"{word} : rows {most}, steps {price}, order {told}")
    rows.append(f"price {judged_top(block, top)[1]}")
    return "\n".join(rows)
