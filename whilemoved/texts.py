"""Tasks and plans shown as texts, which whilemoved.reader reads back."""


def shown_line(name, items, empty):
    words = [empty if item is None else str(item) for item in items]
    return " ".join([name] + words)


def show_task(task):
    needs, old, wish = task
    lines = [shown_line("needs", needs, ""), shown_line("old", old, "-"), shown_line("wish", wish, ".")]
    return "\n".join(lines)


def show_plan(plan):
    return "\n".join([" ".join([f"{place}<{source}" for place, source in stretch]) for stretch in plan])
