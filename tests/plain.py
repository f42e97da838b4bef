"""The words of the document told once more, as plainly as can be, and houses made to compare with them."""

import itertools


def spots_of(house):
    evenings = range(len(house[0]))
    return [(), *[(a,) for a in evenings], *[(a, b) for a in evenings for b in range(house[0][a])]]


def wide_of(spot):
    """The spots that a spot is within, told by the words of [6] one by one."""
    if len(spot) == 2:
        return [spot, (spot[0],), ()]
    return [spot, ()] if len(spot) == 1 else [()]


def plain_all(house, spot, name):
    places = {(recipe[0], recipe[1]): number for number, recipe in enumerate(house[1])}
    return [places[name, wide] for wide in wide_of(spot) if (name, wide) in places]


def plain_straight(house, number):
    name, spot, keep, sorts, needs = house[1][number]
    told = []
    for need in needs:
        places = {(recipe[0], recipe[1]): other for other, recipe in enumerate(house[1])}
        wides = wide_of(spot)[1:] if need == name else wide_of(spot)
        told.append(next((places[need, wide] for wide in wides if (need, wide) in places), None))
    return tuple(told)


def plain_needs(house, number):
    spot, needs, words = house[2][number]
    return tuple((plain_all(house, spot, need) + [None])[0] for need in needs)


def plain_unfound(house):
    """Grown round by round until nothing is added."""
    found = {number for tasting in range(len(house[2])) for number in plain_needs(house, tasting)} - {None}
    while True:
        more = {other for number in found for other in plain_straight(house, number)} - {None}
        if more <= found:
            return [number for number in range(len(house[1])) if number not in found]
        found |= more


def made_house(chance, wide=0):
    """A house made by a chance that is the same in each run; the greater wide is, the more is told at the house."""
    tables = tuple(chance.randint(1, 3) for evening in range(chance.randint(1, 3)))
    spots = spots_of((tables, (), ()))
    names = range(chance.randint(1, 8))
    places = list(itertools.product(names, spots))
    chance.shuffle(places)
    places.sort(key=lambda place: len(place[1]) if chance.random() < wide else 3)

    def needs():
        return tuple(chance.sample(range(8), chance.randint(0, 3))) if chance.random() < 0.3 else \
            tuple(chance.sample(names, min(len(names), chance.randint(0, 3))))
    recipes = tuple((name, spot, chance.randint(0, 3), chance.randint(1, 3), needs())
                    for name, spot in places[:chance.randint(0, 8)])
    at = [spot for spot in spots if len(spot) == 2]
    tastings = tuple((chance.choice(at), needs(), ()) for number in range(chance.randint(0, 3)))
    return tables, recipes, tastings


def without_lacks_and_shorts(house):
    """The house without the needs that are found nowhere, and with one keep; rings stay."""
    tables, recipes, tastings = house
    recipes = tuple((name, spot, 1, sorts, tuple(need for need, found in zip(needs, plain_straight(house, number))
                                                 if found is not None))
                    for number, (name, spot, keep, sorts, needs) in enumerate(recipes))
    return tables, recipes, with_found_needs(house)


def with_found_needs(house):
    """The tastings of a house without the needs that are found nowhere."""
    return tuple((spot, tuple(need for need in needs if plain_all(house, spot, need)), words)
                 for spot, needs, words in house[2])


def made_sound_house(chance):
    """A sound house: of a made one, needs that are found nowhere or might close a ring, and long keeps, are let go."""
    tables, recipes, tastings = made_house(chance, 0.6)
    house = tables, recipes, tastings
    ranks = list(range(len(recipes)))
    chance.shuffle(ranks)
    # Which recipe a need is found at hangs on names and spots alone, so it stays as needs are let go.
    found = [dict(zip(recipe[4], plain_straight(house, number))) for number, recipe in enumerate(recipes)]
    lower = [[need for need in recipe[4] if found[number][need] is not None and ranks[found[number][need]] < ranks[number]]
             for number, recipe in enumerate(recipes)]
    keeps = [recipe[2] for recipe in recipes]
    for number in sorted(range(len(recipes)), key=lambda number: ranks[number]):
        keeps[number] = min([keeps[number]] + [keeps[found[number][need]] for need in lower[number]])
    recipes = tuple((recipe[0], recipe[1], keeps[number], recipe[3], tuple(lower[number]))
                    for number, recipe in enumerate(recipes))
    return tables, recipes, with_found_needs(house)


def made_worded_house(chance, words=("a", "b", "hot", "sweet", "zzzzzzzz")):
    """A sound house whose tastings have words, up to six of them."""
    tables, recipes, tastings = made_sound_house(chance)
    spots = [spot for spot in spots_of((tables, (), ())) if len(spot) == 2]
    tastings += tuple((chance.choice(spots), (), ()) for number in range(chance.randint(0, 3)))
    return tables, recipes, tuple((spot, needs, tuple(sorted(chance.sample(words, chance.randint(0, 4)))))
                                  for spot, needs, other in tastings)


def made_busy_house(chance):
    """A sound house of few recipes that are wanted for many tastings, at several tables: much hangs on the order."""
    keeps = sorted((chance.randint(0, 3) for number in range(4)), reverse=True)

    def some(names, least):
        return tuple(chance.sample(names, chance.randint(least, min(len(names), 2))))
    recipes = tuple((number, (), keeps[number], chance.randint(1, 2), some(range(number), 0)) for number in range(4))
    tastings = tuple(((chance.randint(0, 1), chance.randint(0, 1)), some(range(4), 1), ())
                     for number in range(chance.randint(4, 6)))
    return (2, 2), recipes, tastings


def plain_lacks(house):
    told = {("recipe", number, house[1][number][4][at]) for number in range(len(house[1]))
            for at, found in enumerate(plain_straight(house, number)) if found is None}
    told |= {("tasting", number, house[2][number][1][at]) for number in range(len(house[2]))
             for at, found in enumerate(plain_needs(house, number)) if found is None}
    return sorted(told)


def plain_shorts(house):
    return sorted((one, other) for one in range(len(house[1])) for other in range(len(house[1]))
                  if other in plain_straight(house, one) and house[1][one][2] > house[1][other][2])


def plain_ring(house):
    """Every tuple of unlike recipes is looked at, the short ones first, those of like length as tuples compare."""
    straight = [plain_straight(house, number) for number in range(len(house[1]))]
    for many in range(1, len(straight) + 1):
        for row in itertools.permutations(range(len(straight)), many):
            if row[0] == min(row) and all(row[at] in straight[row[at - 1]] for at in range(many)):
                return row
    return None


def plain_fault(house):
    ring = plain_ring(house)
    told = [("lack", lack) for lack in plain_lacks(house)] + [("short", short) for short in plain_shorts(house)]
    return (told + [None if ring is None else ("ring", ring)])[0]


def plain_wanted(house, recipes):
    wanted = []

    def put(number):
        if number not in wanted:
            for other in plain_straight(house, number):
                put(other)
            wanted.append(number)
    for number in recipes:
        put(number)
    return tuple(wanted)


def plain_turns(house):
    """All turns of a sound house as tuples compare."""
    turns = [(tasting, sorts) for tasting in range(len(house[2]))
             for sorts in itertools.product(*[range(house[1][number][3])
                                              for number in plain_wanted(house, plain_needs(house, tasting))])]
    return sorted(turns)


def plain_place(house, tasting, keep):
    evening, table = house[2][tasting][0]
    return {0: (evening, table, tasting), 1: (evening, table), 2: (evening,), 3: ()}[keep]


def plain_pots(house, turn):
    tasting, sorts = turn
    wanted = plain_wanted(house, plain_needs(house, tasting))
    return tuple((number, plain_place(house, tasting, house[1][number][2]),
                  tuple(sorts[wanted.index(other)] for other in plain_wanted(house, (number,))))
                 for number in wanted)


class PlainService:
    """A run told by the words of [61], [62] and [72] as loops that wait at each deed that is due for how it went."""

    def __init__(self, house, order, often):
        self.house, self.order, self.often = house, order, often
        self.deeds, self.standing, self.made_of, self.at = [], [], {}, -1
        self.came, self.stood, self.behind = ["ahead"] * len(order), [None] * len(order), []
        self.steps = self.going()
        self.due = next(self.steps, None)

    def tell(self, thing):
        """How the deed that is due went, or "stop"."""
        if thing == "stop":
            self.leave()
        else:
            try:
                self.due = self.steps.send(thing)
            except StopIteration:
                self.due = None

    def leave(self):
        behind = self.at + 1
        self.came[behind:] = ["left"] * len(self.came[behind:])

    def going(self):
        for place, turn in enumerate(self.order):
            if self.came[place] == "left":
                break
            self.at = place
            yield from self.clear_for(turn)
            yield from self.have(turn)
            if self.came.count("bad") + self.came.count("missed") >= self.often:
                self.leave()
            yield from self.pour([pot for pot in self.standing if self.house[1][pot[0]][2] == 0])
            self.behind.append(tuple(self.standing))
        yield from self.pour(list(self.standing))

    def pour(self, pots):
        for pot in [pot for pot in reversed(self.standing) if pot in pots]:
            well = yield ("pour", pot)
            self.deeds.append(("pour" if well else "spill", pot))
            self.standing.remove(pot)

    def clear_for(self, turn):
        wanted = plain_pots(self.house, turn)
        going = {pot for pot in self.standing if pot[1] != plain_place(self.house, turn[0], self.house[1][pot[0]][2])}
        going |= {pot for pot in self.standing for other in wanted if pot[0] == other[0] and pot != other}
        while any(self.made_of[pot] & going and pot not in going for pot in self.standing):
            going |= {pot for pot in self.standing if self.made_of[pot] & going}
        yield from self.pour(going)

    def have(self, turn):
        for pot in plain_pots(self.house, turn):
            if pot not in self.standing:
                well = yield ("cook", pot)
                if not well:
                    self.deeds += [("burn", pot), ("miss", turn)]
                    self.came[self.at] = "missed"
                    return
                # Told by the pots that stand as it is cooked, not by recipes.
                self.made_of[pot] = {other for other in self.standing if other[0] in plain_straight(self.house, pot[0])}
                self.standing.append(pot)
                self.deeds.append(("cook", pot))
        self.stood[self.at] = tuple(self.standing)
        well = yield ("taste", turn)
        self.deeds.append(("taste" if well else "bad", turn))
        self.came[self.at] = "good" if well else "bad"


def plain_run(house, order, often, goes_well):
    """The list, what came of each turn, and what stood as each was tasted; goes_well is asked of each deed."""
    service = plain_course(house, order, often, goes_well)
    return service.deeds, tuple(service.came), tuple(service.stood)


def plain_course(house, order, often, goes_well):
    """A run gone to its end."""
    service = PlainService(house, order, often)
    while service.due is not None:
        service.tell(goes_well(service.due[0]))
    return service


def by_mishaps(mishaps):
    """A goes_well for plain_run: told by mishaps."""
    counts = {"cook": 0, "pour": 0, "taste": 0}

    def goes_well(what):
        counts[what] += 1
        return (what, counts[what] - 1) not in mishaps
    return goes_well


def every_run(house, order, often):
    """For each way in which a run's deeds may go well or wrong its mishaps, list, what came of it, and what stood."""
    told, open_ones = [], [()]
    while open_ones:
        ahead = open_ones.pop()
        asked = []

        def goes_well(what):
            well = ahead[len(asked)] if len(asked) < len(ahead) else True
            asked.append((what, well))
            return well
        run = plain_run(house, order, often, goes_well)
        whats = [what for what, well in asked]
        told.append((tuple(sorted((what, whats[:at].count(what)) for at, (what, well) in enumerate(asked) if not well)), *run))
        wells = tuple(well for what, well in asked)
        open_ones += [(*wells[:at], False) for at in range(len(ahead), len(wells))]
    return told


def made_order(chance, house, most):
    """An order of some turns of a sound house, by chance."""
    turns = plain_turns(house)
    return tuple(chance.sample(turns, min(len(turns), chance.randint(0, most))))


def made_mishaps(chance, most, far=40):
    """Mishaps by chance, more of them early in the run."""
    told = {(chance.choice(("cook", "pour", "taste")), chance.randint(0, chance.randint(0, far)))
            for number in range(chance.randint(0, most))}
    return tuple(sorted(told))
