"""Sheets: rows that say something of rooms, and where each of them holds."""

from twinrooms.errors import BadSheet
from twinrooms.halls import colours_of


def places_named(row):
    if row[0] == "not":
        return [row[1]]
    if row[0] == "both":
        return [row[1], row[2]]
    if row[0] == "some":
        return [row[2]]
    return []


def check_sheet(sheet):
    for place, row in enumerate(sheet):
        for k in places_named(row):
            if k < 0 or k >= place:
                raise BadSheet(f"row {place} names {k}, which is not ahead of it")


def doors_by_name(hall):
    named = {}
    for a, name, b in hall.doors():
        named.setdefault(name, []).append((a, b))
    return named


def led_into(doors, flags):
    found = [False for flag in flags]
    for a, b in doors:
        if flags[b]:
            found[a] = True
    return found


def flags_of(row, told, colours, named):
    if row[0] == "colour":
        return [colour == row[1] for colour in colours]
    if row[0] == "not":
        return [not flag for flag in told[row[1]]]
    if row[0] == "both":
        return [one and other for one, other in zip(told[row[1]], told[row[2]])]
    if row[0] == "some":
        return led_into(named.get(row[1], []), told[row[2]])
    return [True for colour in colours]


def rooms_of(hall, sheet):
    check_sheet(sheet)
    colours = colours_of(hall)
    named = doors_by_name(hall)
    # A row names only rows ahead of it, so one walk does, however long a chain is.
    told = []
    for row in sheet:
        told.append(flags_of(row, told, colours, named))
    return [flagged(flags) for flags in told]


def flagged(flags):
    return [a for a, flag in enumerate(flags) if flag]


def depths(sheet):
    check_sheet(sheet)
    found = []
    for row in sheet:
        depth = max([found[k] for k in places_named(row)], default=0)
        if row[0] == "some":
            depth = depth + 1
        found.append(depth)
    return found


def bright(sheet):
    return all([row[0] != "not" for row in sheet])
