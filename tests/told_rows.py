"""Rows for valley(): what good ones do, and why the others are refused."""

# Rows of a text, and the deeds that they tell, on valley().
PLAIN = (
    ("place hill", lambda net: net.place("hill")),
    ("through spring 7", lambda net: net.through("spring", (7, 0))),
    ("through spring 8-2s", lambda net: net.through("spring", (8, -2))),
    ("through mill open", lambda net: net.through("mill")),
    ("through sea open", lambda net: net.through("sea")),
    ("store mill 3+1s 0-1t", lambda net: net.store("mill", (3, 1), (0, -1))),
    ("store mill open 5", lambda net: net.store("mill", None, (5, 0))),
    ("store spring 0 0", lambda net: net.store("spring")),
    ("store sea 0 5+1t", lambda net: net.store("sea")),
    ("store sea open 0", lambda net: net.store("sea", None)),
    ("want sea 3 9", lambda net: net.want("sea", 3, (9, 0))),
    ("want spring 1 -3-2s", lambda net: net.want("spring", 1, (-3, -2))),
    ("want mill 2 0", lambda net: net.want("mill", 2)),
    ("road up sea spring 2 1+1s open:2-1t", lambda net: net.road("up", "sea", "spring", takes=2, floor=(1, 1),
                                                                  rungs=((None, (2, -1)),))),
    ("road up sea sea 9 0 0:0", lambda net: net.road("up", "sea", "sea", takes=9, rungs=(((0, 0), (0, 0)),))),
    ("road up mill sea 0 0 1:-1 2+1s:0 3:5+1t open:9", lambda net: net.road(
        "up", "mill", "sea", rungs=(((1, 0), (-1, 0)), ((2, 1), (0, 0)), ((3, 0), (5, 1)), (None, (9, 0))))),
)
OTHERS = (
    ("strike loop", lambda net: net.strike("loop")),
    ("box s 1 3", lambda net: net.box(s=(1, 3))),
    ("box t -2 0", lambda net: net.box(t=(-2, 0))),
)

BAD_FORMS = (
    # No row of those kinds.
    "", " ", "place", "spring", "Place hill", "PLACE hill", "hours 3", "s 0 4", "t -2 2", "placehill", "strikes loop",
    "change west", "rung west", "#", "place hill\nplace dale", "place hill\n", "\nplace hill",
    # A word too few, a word too many.
    "place hill dale", "through", "through mill", "through mill 3 4", "store", "store mill", "store mill 3",
    "store mill 3 4 5", "want", "want mill", "want mill 1", "want mill 1 2 3", "road", "road up", "road up sea spring",
    "road up sea spring 0", "road up sea spring 0 0", "strike", "strike loop east", "box", "box s", "box s 1",
    "box s 1 2 3", "box 1 3",
    # Words without signs.
    " place hill", "place  hill", "place hill ", "place ", "through mill ", "want mill  1 2", "want mill 1 2 ",
    "road up sea spring 0 0  open:0", "road up sea spring 0 0 open:0 ", "strike ", " strike loop", "box s  1 3",
    # Numbers that are not written as told.
    "want mill 01 2", "want mill +1 2", "want mill 1s 2", "want mill one 2", "want mill -0 2", "want mill 1/2 2",
    "want mill 12345678 2", "want mill 1 02", "want mill 1 +2", "want mill 1 -0", "want mill 1 2+0s",
    "want mill 1 2+1t", "want mill 1 2s", "want mill 1 1s", "want mill 1 open", "want mill 1 12345678",
    "want mill 1 1+12345678s", "want mill 1 -12345678", "want mill 1 1+01s", "want mill 1 2.0", "want mill 1.0 2",
    "want mill 1 00", "want mill 1 s", "want mill 1 -",
    "through mill 3+1t", "through mill 03", "through mill Open", "through mill none", "through mill +3",
    "through mill -0", "through mill 12345678", "through mill opens", "through mill open:0",
    "store mill 3+1t 4", "store mill 3 4+1s", "store mill 3 open", "store mill 3:4", "store mill 03 4",
    "store mill 3 04", "store mill 3 -0", "store mill 3 12345678", "store mill 12345678 3", "store mill open open",
    "road up sea spring 00 0 open:0", "road up sea spring +1 0 open:0", "road up sea spring x 0 open:0",
    "road up sea spring 1s 0 open:0", "road up sea spring 12345678 0 open:0", "road up sea spring 0 open open:0",
    "road up sea spring 0 1+1t open:0", "road up sea spring 0 -0 open:0", "road up sea spring 0 0 open",
    "road up sea spring 0 0 open:", "road up sea spring 0 0 :0", "road up sea spring 0 0 :", "road up sea spring 0 0 3",
    "road up sea spring 0 0 open:open", "road up sea spring 0 0 3:4:5", "road up sea spring 0 0 3:4+1s",
    "road up sea spring 0 0 3+1t:4", "road up sea spring 0 0 03:4", "road up sea spring 0 0 3:04",
    "road up sea spring 0 0 3:-0", "road up sea spring 0 0 12345678:0", "road up sea spring 0 0 0:12345678",
    "road up sea spring 0 0 3:4 x", "road up sea spring 0 0 3:4 open", "road up sea spring 0 open:0",
    "road up sea spring 0 0 1:1 1:1 1:1 1:1 1:x",
    "box u 1 3", "box S 1 3", "box st 1 3", "box s 01 3", "box s 1 +3", "box s 1 3s", "box t 1 3+1t", "box t -0 3",
    "box s 1 12345678", "box t open 3",
)

REFUSED = (
    ("place Hill", "bad name"), ("place 1", "bad name"), ("place ninesigns", "bad name"), ("place a:b", "bad name"),
    ("place mill", "taken"), ("place west", "taken"),
    ("through hill 3", "no place"), ("through Hill open", "no place"), ("through west 3", "no place"),
    ("through mill 1000001", "too far"), ("through mill 9999999-9999999s", "too far"), ("through mill 0-1s", "below"),
    ("store hill 3 4", "no place"), ("store mill 3 1000001", "too far"), ("store mill 0 0-1000001t", "too far"),
    ("store mill -1 0", "below"),
    ("want hill 1 2", "no place"), ("want mill 0 2", "no hour"), ("want mill 4 2", "no hour"),
    ("want mill -1 2", "no hour"), ("want mill 9999999 2", "no hour"), ("want mill 1 -1000001", "too far"),
    ("road Up sea spring 0 0 open:0", "bad name"), ("road east sea spring 0 0 open:0", "taken"),
    ("road mill sea spring 0 0 open:0", "taken"), ("road up hill spring 0 0 open:0", "no place"),
    ("road up sea Hill 0 0 open:0", "no place"), ("road up sea spring 10 0 open:0", "bad takes"),
    ("road up sea spring -1 0 open:0", "bad takes"), ("road up sea spring 0 1000001 open:0", "too far"),
    ("road up sea spring 0 -1 open:0", "below"), ("road up sea spring 0 0 open:0 open:0", "bad rungs"),
    ("road up sea spring 0 0 1:1 1:1 1:1 1:1 1:1", "bad rungs"), ("road up sea spring 0 0 3-1s:1", "below"),
    ("road up sea spring 0 0 1:1000001", "too far"), ("road up sea spring 0 0 1:1 open:0", "falls"),
    ("road up sea spring 0 0 1:0 open:1+1t", "falls"),
    # Of two refusals the one that the deed tells first.
    ("road Up hill dale 10 -1 1:1 1:0", "bad name"), ("road up hill dale 10 -1 1:1 1:0", "no place"),
    ("road up sea spring 10 -1 1:1 1:0", "bad takes"), ("road up sea spring 0 -1 1:1 1:0", "below"),
    ("want hill 9 1000001", "no place"), ("want mill 9 1000001", "no hour"), ("store mill -1 1000001", "too far"),
)
REFUSED_OTHERS = (
    ("strike hill", "no name"), ("strike Hill", "no name"), ("strike mill", "in use"), ("box s 1 0", "bad box"),
    ("box t 1 0", "bad box"), ("box s 0 1000001", "too far"), ("box t -1000001 0", "too far"), ("box s 0 100", "below"),
    ("box s -1 0", "below"), ("box t -3 0", "falls"),
)
