"""The texts by which values are shown. The values are known not to be too deep."""

from recordcraft.sorts import sort_of


def text_of(value):
    """Returns the text by which a value is shown."""
    # The sorts that occur most often are known by their classes, without a call.
    if type(value) is int:
        return str(value)
    if type(value) is list:
        return f"[{_texts_of(value)}]"
    sort = sort_of(value)
    if sort == "text":
        return _quoted(value)
    if sort == "tuple":
        return f"({_texts_of(value)},)" if len(value) == 1 else f"({_texts_of(value)})"
    if sort == "list":
        return f"[{_texts_of(value)}]"
    if sort == "dict":
        return _text_of_dict(value)
    if sort == "record":
        return _text_of_record(value)
    return str(value)


def _texts_of(items):
    return ", ".join([str(item) if type(item) is int else text_of(item) for item in items])


def _quoted(text):
    if text.isalnum():
        return f'"{text}"'
    # The backslash comes first, since the others bring new ones.
    escaped = text.replace("\\", "\\\\").replace("\"", "\\\"").replace("\n", "\\n")
    return f'"{escaped}"'


def _text_of_dict(value):
    inside = ", ".join([f"{_quoted(key)}: {text_of(value[key])}" for key in value])
    return "{" + inside + "}"


def _text_of_record(record):
    kind = record.kind
    if not kind.show:
        return f"{kind.name}(...)"
    values = record.present_values()
    inside = ", ".join([f"{name}={text_of(values[name])}" if name in values else f"{name}=unset"
                        for name in kind.show_names])
    return f"{kind.name}({inside})"
