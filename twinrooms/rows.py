"""Sheets written from grounds, which say why one room is told apart from another.

Grounds are a dict: for a pair of rooms a row that holds in the first room and not in the second, which names
pairs where a sheet's row names places: ("colour", c), ("not", pair), ("some", name, pairs). The last one says that
behind some door of that name all that the pairs' rows say holds. Each pair stands behind those that its row names.
"""


def sheet_for(grounds, wanted):
    needed = needed_pairs(grounds, wanted)
    # Equal rows are written once. The wanted pair's row is none of those it is made of, so it comes last.
    # For a pair come at most a row for each door of its second room and one more: no more than
    # 60 * 400 + 60 * 60 and a few in all, well within what a sheet may have.
    places = {}
    told = {}
    for pair, ground in grounds.items():
        if pair in needed:
            told[pair] = written(places, ground, told)
    return list(places)


def needed_pairs(grounds, wanted):
    needed = {wanted: True}
    # Walked from behind, so that a pair is reached only when all that need it have been.
    for pair in reversed(list(grounds)):
        if pair in needed:
            for other in pairs_named(grounds[pair]):
                needed[other] = True
    return needed


def pairs_named(ground):
    if ground[0] == "not":
        return [ground[1]]
    if ground[0] == "some":
        return ground[2]
    return []


def written(places, ground, told):
    if ground[0] == "not":
        return put(places, ("not", told[ground[1]]))
    if ground[0] == "some":
        behind = all_of(places, [told[pair] for pair in ground[2]])
        return put(places, ("some", ground[1], behind))
    return put(places, ground)


def all_of(places, parts):
    if len(parts) == 0:
        return put(places, ("any",))
    parts = sorted(set(parts))
    whole = parts[0]
    for part in parts[1:]:
        whole = put(places, ("both", whole, part))
    return whole


def put(places, row):
    return places.setdefault(row, len(places))
