"""The steps of tables, row by row."""


def table_step(manner, hand, deed, reads):
    table = manner[3][hand] if deed[0] == "put" else manner[4][hand]
    row = table[0]
    for content in reads:
        row = table[row_behind(row, content)]
    if row[0] == "read":
        return ("read", ("box", row[1]))
    if row[0] == "write":
        return ("write", ("box", row[1]), row[2])
    return ("told", row[1] if row[0] == "told" else None)


def row_behind(row, content):
    if row[0] == "read":
        return dict(row[2]).get(content, row[3])
    return row[3]
