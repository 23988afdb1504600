/- What the lines of a manifest say, by their words: the plain functions that the program's own are held against; nothing of the program is named here. -/
import Derived.Test.YtcfhleenecfghaaGreatDoorPlan3
import Derived.Test.YtcfhleenecfghaaGreatDoorWords
namespace Go.Proofs.YtcfhleenecfghaaGreatDoor

/-- A word's kind. -/
def V.kind (l : List UInt8) : Int := if l == [40] then 1 else if l == [41] then 2 else if l == [61, 62] then 3 else 0
/-- A line's first word. -/
def V.keyw (l : List UInt8) : Int := if l == [109, 111, 100, 117, 108, 101] then 1 else if l == [114, 101, 113, 117, 105, 114, 101] then 2 else if l == [101, 120, 99, 108, 117, 100, 101] then 3 else if l == [114, 101, 112, 108, 97, 99, 101] then 4 else 0
/-- What a line says: what stands ahead of the first two slashes. -/
def V.said (l : List UInt8) : List UInt8 := (Lib.cut l [47, 47]).1
/-- Are some words of these kinds, no more and no fewer? -/
def V.fit (ws : List ByteArray) (ks : List Int) : Bool := ws.map (fun s => V.kind s.data.toList) == ks
/-- What a keyword and the words behind it say: the kind of line, and its words. -/
def V.meaning (kw : Int) (ws : List ByteArray) : Option (Nat × List ByteArray) :=
  if kw == 1 && V.fit ws [0] then some (123, [ws.getD 0 ByteArray.empty])
  else if kw == 2 && V.fit ws [0, 0] then some (221, [ws.getD 0 ByteArray.empty, ws.getD 1 ByteArray.empty])
  else if kw == 3 && V.fit ws [0, 0] then some (222, [ws.getD 0 ByteArray.empty, ws.getD 1 ByteArray.empty])
  else if kw == 4 && V.fit ws [0, 3, 0, 0] then some (224, [ws.getD 0 ByteArray.empty, ⟨#[]⟩, ws.getD 2 ByteArray.empty, ws.getD 3 ByteArray.empty])
  else if kw == 4 && V.fit ws [0, 0, 3, 0, 0] then some (224, [ws.getD 0 ByteArray.empty, ws.getD 1 ByteArray.empty, ws.getD 3 ByteArray.empty, ws.getD 4 ByteArray.empty])
  else none
/-- What the parser answers to a line, and what was said then. -/
def V.added (n : Nat) (kw : Int) (ws : List ByteArray) (l : List (Nat × Nat × List ByteArray)) : Bool × List (Nat × Nat × List ByteArray) :=
  match V.meaning kw ws with
  | some x => (true, l ++ [(n, x)])
  | none => (false, l)
/-- Does a line open a block? -/
def V.opens (kw : Int) (ws : List ByteArray) : Bool := (kw == 2 || kw == 3 || kw == 4) && V.fit ws [1]
/-- What the parser answers to a line in a block, and how it stands then. -/
def V.tookIn (n : Nat) (ws : List ByteArray) (blk : Int) (l : List (Nat × Nat × List ByteArray)) : Bool × Int × Int × List (Nat × Nat × List ByteArray) :=
  if V.fit ws [2] then (true, 1, blk, l) else ((V.added n blk ws l).1, 2, blk, (V.added n blk ws l).2)
/-- What the parser answers to a line, and how it stands then. -/
def V.took (n : Nat) (ws : List ByteArray) (st blk : Int) (l : List (Nat × Nat × List ByteArray)) : Bool × Int × Int × List (Nat × Nat × List ByteArray) :=
  match ws with
  | [] => (true, st, blk, l)
  | x :: rest =>
    if st == 2 then V.tookIn n (x :: rest) blk l
    else if V.keyw x.data.toList == 1 && st != 0 then (false, st, blk, l)
    else if V.opens (V.keyw x.data.toList) rest then (true, 2, V.keyw x.data.toList, l)
    else ((V.added n (V.keyw x.data.toList) rest l).1, 1, blk, (V.added n (V.keyw x.data.toList) rest l).2)
/-- A statement of one of the four kinds, with as many words as it has. -/
def V.Sound (x : Nat × Nat × List ByteArray) : Prop :=
  (x.2.1 = 123 ∧ ∃ a, x.2.2 = [a]) ∨ (x.2.1 = 221 ∧ ∃ a b, x.2.2 = [a, b]) ∨ (x.2.1 = 222 ∧ ∃ a b, x.2.2 = [a, b]) ∨ (x.2.1 = 224 ∧ ∃ a b c d, x.2.2 = [a, b, c, d])
/-- How the parser stands, of what is possible. -/
def V.Stands (st blk : Int) : Prop := (st = 0 ∨ st = 1 ∨ st = 2) ∧ (blk = 0 ∨ blk = 1 ∨ blk = 2 ∨ blk = 3 ∨ blk = 4)
/-- May the manifest end here? -/
def V.may (st : Int) (l : List (Nat × Nat × List ByteArray)) : Bool :=
  match l with
  | [] => false
  | x :: _ => !(st == 2) && x.2.1 == 123
/-- Texts of bytes. -/
def V.texts (ls : List (List UInt8)) : List ByteArray := ls.map fun l => ⟨l.toArray⟩
/-- A text's lines. -/
def V.lines (s : ByteArray) : List ByteArray := V.texts (V.pieces 10 s.data.toList)
/-- A line's tokens. -/
def V.toks (s : ByteArray) : List ByteArray := V.texts (V.words (V.said s.data.toList))
/-- What is said up to the first line with a Syntax error, and that line's number. -/
def V.parseGo : Nat → List ByteArray → Int → Int → List (Nat × Nat × List ByteArray) → List (Nat × Nat × List ByteArray) × Nat
  | n, [], st, _, l => (l, if V.may st l then 0 else n)
  | n, x :: xs, st, blk, l =>
    if (V.took (n + 1) (V.toks x) st blk l).1 then V.parseGo (n + 1) xs (V.took (n + 1) (V.toks x) st blk l).2.1 (V.took (n + 1) (V.toks x) st blk l).2.2.1 (V.took (n + 1) (V.toks x) st blk l).2.2.2
    else ((V.took (n + 1) (V.toks x) st blk l).2.2.2, n + 1)
def V.parse (s : ByteArray) : List (Nat × Nat × List ByteArray) × Nat := V.parseGo 0 (V.lines s) 0 0 []
/-- A byte of a path. -/
def V.pathByte (b : UInt8) : Bool := b.toNat == 46 || b.toNat == 45 || b.toNat == 95 || (decide (97 ≤ b.toNat) && decide (b.toNat ≤ 122)) || (decide (48 ≤ b.toNat) && decide (b.toNat ≤ 57))
/-- A segment of a path. -/
def V.segment (l : List UInt8) : Bool := l.all V.pathByte && (l != [] && (l != [46] && l != [46, 46]))
/-- A path. -/
def V.path (l : List UInt8) : Bool := decide (l.length ≤ 60) && (V.pieces 47 l).all V.segment
def V.fPath (p : ByteArray) : Option (Int × Int × ByteArray × ByteArray) := if V.path p.data.toList then none else some (3, 0, p, ⟨#[]⟩)
def V.fVer (v : ByteArray) : Option (Int × Int × ByteArray × ByteArray) := if V.ver v.data.toList then none else some (2, 0, ⟨#[]⟩, v)
def V.fModule (p v : ByteArray) : Option (Int × Int × ByteArray × ByteArray) := match V.fPath p with | some f => some f | none => V.fVer v
def V.fReplaced (p v : ByteArray) : Option (Int × Int × ByteArray × ByteArray) := if v.toList == [] then V.fPath p else V.fModule p v
def V.fBoth (a b c d : ByteArray) : Option (Int × Int × ByteArray × ByteArray) := match V.fReplaced a b with | some f => some f | none => V.fModule c d
/-- The fault of a line's words. -/
def V.fWords (t : Nat) (fs : List ByteArray) : Option (Int × Int × ByteArray × ByteArray) :=
  if t == 123 then V.fPath (fs.getD 0 ByteArray.empty)
  else if t == 224 then V.fBoth (fs.getD 0 ByteArray.empty) (fs.getD 1 ByteArray.empty) (fs.getD 2 ByteArray.empty) (fs.getD 3 ByteArray.empty)
  else V.fModule (fs.getD 0 ByteArray.empty) (fs.getD 1 ByteArray.empty)
/-- A line's place. -/
def V.place (t : Nat) (fs : List ByteArray) : Int × ByteArray × ByteArray :=
  if t == 123 then (0, fs.getD 0 ByteArray.empty, ⟨#[]⟩)
  else if t == 221 then (1, fs.getD 0 ByteArray.empty, ⟨#[]⟩)
  else if t == 222 then (2, fs.getD 0 ByteArray.empty, fs.getD 1 ByteArray.empty)
  else (3, fs.getD 0 ByteArray.empty, fs.getD 1 ByteArray.empty)
/-- The first fault of some statements, of which the places of others are taken. -/
def V.checkGo : List (Nat × Nat × List ByteArray) → List ((Int × ByteArray × ByteArray) × Nat) → Option (Int × Int × ByteArray × ByteArray)
  | [], _ => none
  | x :: xs, seen =>
    match V.fWords x.2.1 x.2.2 with
    | some f => some (f.1, (x.1 : Int), f.2.2.1, f.2.2.2)
    | none => if seen.any (fun y => decide (y.1 = V.place x.2.1 x.2.2)) then some (4, (x.1 : Int), ⟨#[]⟩, ⟨#[]⟩) else V.checkGo xs (seen ++ [(V.place x.2.1 x.2.2, x.1)])
/-- Statements but for the last one, if that is of this line. -/
def V.without (l : List (Nat × Nat × List ByteArray)) (n : Nat) : List (Nat × Nat × List ByteArray) :=
  match l.getLast? with
  | some x => if x.1 = n then l.dropLast else l
  | none => l

end Go.Proofs.YtcfhleenecfghaaGreatDoor
