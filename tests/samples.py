"""Texts of programs that several tests use."""

# Every form of row of points 4 and 5. Behind each numbered row stands its number here, which text_of takes away.
EVERY_ROWS = """kind tree fields left right
kind stone
kind leaf of tree fields seed
func pair one other keeps more most
new made leaf #0
row list #1
func again pair one other #2
copy one other #3
take one made left #4
put made right one #5
push list one #6
pull one list #7
do one again one other #8
ask one made grow one #9
straight one made tree grow other #10
give one #11
end
method tree grow much
tell self #12
rest #13
check self left #14
fresh spot leaf #15
own much spot seed #16
place spot seed much #17
if choose #18
rest #19
else
if some much #20
tell much #21
end
end
while same much self #22
while choose #23
end
end
if same much much #24
else
end
end
method leaf fall
end
func lone
end
main
func f lone #25
do g f #26
end"""
EVERY_NUMBERED = [
    row.split(" #")[0].split(" ") for row in EVERY_ROWS.split("\n") if "#" in row]
EVERY = "\n".join(row.split(" #")[0] for row in EVERY_ROWS.split("\n"))

# Words of the language as names, wherever a name may stand.
WORDS = """kind of fields of fields end
kind fields of of fields kind
kind main of fields
kind end
func end if else keeps keeps while
new new of
row row
func func end if else
func end rest while
copy if else
take take put push
put put put put
push same same
pull some choose
do end if while do do
ask ask ask end end end
ask ask ask ask
straight main fields of keeps of
straight of of of keeps keeps
give give
tell end
check end end
fresh of of
own of fields end
place choose some same
if choose
end
if some some
else
end
while same same same
end
while some choose
end
end
method of keeps keeps
end
method fields main
end
func rest keeps end
end
main
end"""

BARE = "main\nend"
