/-
  Plain mathematics of the parser: what it tells of a row of tokens.
-/
import Derived.Test.YtjofhaakkleecaaDoorJ0
namespace Go.Proofs.YtjofhaakkleecaaDoor.Lx
set_option linter.unusedVariables false
set_option maxRecDepth 100000

/-- A node; a statement; a procedure. -/
structure Nd where
  k : Nat
  n : Nat
  s : List Nat
  a : Int
  b : Int
inductive St where
  | mk (k : Nat) (name proc : List Nat) (e : List Nd) (args : List (List Nd)) (body els : List St)
structure Pr where
  name : List Nat
  params : List (List Nat)
  result : List Nat
  vars : List (List Nat)
  body : List St

/-- What is read, and where it goes on; or an error, and at which token. -/
inductive R (α : Type) where
  | ok (a : α) (i : Nat)
  | bad (e : Nat) (i : Nat)
def R.bind {α β : Type} : R α → (α → Nat → R β) → R β
  | .ok a i, f => f a i
  | .bad e i, _ => .bad e i

abbrev Tks := Nat → Tk
abbrev Ps := Nat → List Nd → R (List Nd)

/-- An operator's kind of node, and its rank. -/
def opr (t : List Nat) : Nat × Nat :=
  if t = [111, 114] then (20, 1) else if t = [97, 110, 100] then (19, 2) else if t = [61, 61] then (12, 3) else if t = [33, 61] then (13, 3)
  else if t = [60] then (14, 3) else if t = [60, 61] then (15, 3) else if t = [62] then (16, 3) else if t = [62, 61] then (17, 3)
  else if t = [43] then (4, 4) else if t = [45] then (5, 4) else if t = [42] then (6, 5) else if t = [47] then (7, 5) else if t = [37] then (8, 5) else (0, 0)

/-- A number's digits. -/
def numV (t : List Nat) : Nat := t.foldl (fun z c => z * 10 + (c - 48)) 0

def lastI (ns : List Nd) : Int := (ns.length : Int) - 1

def joinsR (tk : Tks) (rank : Nat) (p : Ps) (i : Nat) (ns : List Nd) : R (Bool × List Nd) :=
  if (opr (tk i).t).2 ≠ rank then .ok (false, ns) i
  else (p (i + 1) ns).bind fun ns' j => .ok (true, ns' ++ [⟨(opr (tk i).t).1, 0, [], lastI ns, lastI ns'⟩]) j
def moreR (tk : Tks) (rank : Nat) (p : Ps) : Nat → Ps
  | 0, i, ns => .ok ns i
  | m + 1, i, ns => (joinsR tk rank p i ns).bind fun b j => if b.1 = true then moreR tk rank p m j b.2 else .ok b.2 j
def chainR (tk : Tks) (F rank : Nat) (p : Ps) (i : Nat) (ns : List Nd) : R (List Nd) := (p i ns).bind fun ns' j => moreR tk rank p F j ns'

/-- .. of one that opens with a token; c: the token that shuts it. -/
def openR {α : Type} (tk : Tks) (t : List Nat) (d i : Nat) (f : Nat → R α) : R α :=
  if (tk i).t = t then (if d = 50 then .bad 5 i else f (i + 1)) else .bad 4 i
def takeR {α : Type} (tk : Tks) (t : List Nat) (a : α) (i : Nat) : R α := if (tk i).t = t then .ok a (i + 1) else .bad 4 i
def preR (tk : Tks) (t : List Nat) (k d : Nat) (p : Ps) (i : Nat) (ns : List Nd) : R (List Nd) :=
  openR tk t d i fun j => (p j ns).bind fun ns' l => .ok (ns' ++ [⟨k, 0, [], lastI ns', -1⟩]) l
def brackR (tk : Tks) (t c : List Nat) (d : Nat) (p : Ps) (i : Nat) (ns : List Nd) : R (List Nd) :=
  openR tk t d i fun j => (p j ns).bind fun ns' l => takeR tk c ns' l
def varR (tk : Tks) (i : Nat) (ns : List Nd) : R (List Nd) := if (tk i).k = 1 then .ok (ns ++ [⟨2, 0, (tk i).t, -1, -1⟩]) (i + 1) else .bad 4 i

def unR (tk : Tks) (F : Nat) : Nat → Nat → Ps
  | 0, _, i, _ => .bad 4 i
  | n + 1, d, i, ns =>
    if (tk i).t = [45] then preR tk [45] 3 d (unR tk F n (d + 1)) i ns
    else if (tk i).t = [40] then brackR tk [40] [41] d (chainR tk F 4 (chainR tk F 5 (unR tk F n (d + 1)))) i ns
    else if (tk i).k = 2 then .ok (ns ++ [⟨1, numV (tk i).t, [], -1, -1⟩]) (i + 1)
    else varR tk i ns
def prodR (tk : Tks) (F n d : Nat) : Ps := chainR tk F 5 (unR tk F n d)
def sumR (tk : Tks) (F n d : Nat) : Ps := chainR tk F 4 (prodR tk F n d)
def orderR (tk : Tks) (F d : Nat) (i : Nat) (ns : List Nd) : R (List Nd) :=
  (sumR tk F F d i ns).bind fun ns' j => (joinsR tk 3 (sumR tk F F d) j ns').bind fun b l => if b.1 = true then .ok b.2 l else .bad 4 l
def litR (tk : Tks) (F : Nat) : Nat → Nat → Ps
  | 0, _, i, _ => .bad 4 i
  | n + 1, d, i, ns =>
    if (tk i).t = [110, 111, 116] then preR tk [110, 111, 116] 18 d (litR tk F n (d + 1)) i ns
    else if (tk i).t = [91] then brackR tk [91] [93] d (chainR tk F 1 (chainR tk F 2 (litR tk F n (d + 1)))) i ns
    else if (tk i).t = [116, 114, 117, 101] then .ok (ns ++ [⟨9, 0, [], -1, -1⟩]) (i + 1)
    else if (tk i).t = [102, 97, 108, 115, 101] then .ok (ns ++ [⟨10, 0, [], -1, -1⟩]) (i + 1)
    else if (tk i).t = [42] then .ok (ns ++ [⟨11, 0, [], -1, -1⟩]) (i + 1)
    else orderR tk F d i ns
def conjR (tk : Tks) (F n d : Nat) : Ps := chainR tk F 2 (litR tk F n d)
def disjR (tk : Tks) (F n d : Nat) : Ps := chainR tk F 1 (conjR tk F n d)

def exprR (tk : Tks) (F d i : Nat) : R (List Nd) := sumR tk F F d i []
def condR (tk : Tks) (F d i : Nat) : R (List Nd) := disjR tk F F d i []
def nameR (tk : Tks) (i : Nat) : R (List Nat) := if (tk i).k = 1 then .ok (tk i).t (i + 1) else .bad 4 i

/-- What stands in ( and ), parted by commas. -/
def listMore {α : Type} (tk : Tks) (one : Nat → R α) : Nat → List α → Nat → R (List α)
  | 0, l, i => .ok l i
  | m + 1, l, i => if (tk i).t = [44] then (one (i + 1)).bind fun a j => listMore tk one m (l ++ [a]) j else .ok l i
def listR {α : Type} (tk : Tks) (F : Nat) (one : Nat → R α) (i : Nat) : R (List α) :=
  if (tk i).t = [40] then
    (if (tk (i + 1)).t = [41] then .ok [] (i + 2) else (one (i + 1)).bind fun a j => (listMore tk one F [a] j).bind fun l k => takeR tk [41] l k)
  else .bad 4 i

def callsB (tk : Tks) (i : Nat) : Bool := decide ((tk i).k = 1) && decide ((tk (i + 1)).t = [40])
def callR (tk : Tks) (F d : Nat) (name : List Nat) (i : Nat) : R St :=
  (nameR tk i).bind fun p j => (listR tk F (exprR tk F d) j).bind fun l k => .ok (.mk 8 name p [] l [] []) k
def plainR (tk : Tks) (F d i : Nat) : R St :=
  if (tk i).t = [104, 97, 118, 111, 99] then (nameR tk (i + 1)).bind fun x j => .ok (.mk 2 x [] [] [] [] []) j
  else if (tk i).t = [97, 115, 115, 117, 109, 101] then (condR tk F d (i + 1)).bind fun e j => .ok (.mk 3 [] [] e [] [] []) j
  else if (tk i).t = [97, 115, 115, 101, 114, 116] then (condR tk F d (i + 1)).bind fun e j => .ok (.mk 4 [] [] e [] [] []) j
  else if (tk i).t = [115, 107, 105, 112] then .ok (.mk 9 [] [] [] [] [] []) (i + 1)
  else if callsB tk i = true then callR tk F d [] i
  else (nameR tk i).bind fun x j =>
    if (tk j).t = [61] then
      (if callsB tk (j + 1) = true then callR tk F d x (j + 1) else (exprR tk F d (j + 1)).bind fun e k => .ok (.mk 1 x [] e [] [] []) k)
    else .bad 4 j
def stmtsM (tk : Tks) (st : Nat → R St) : Nat → List St → Nat → R (List St)
  | 0, l, i => .bad 4 i
  | m + 1, l, i => if (tk i).t = [125] then .ok l (i + 1) else (st i).bind fun s j => stmtsM tk st m (l ++ [s]) j
def blockR (tk : Tks) (F : Nat) (st : Nat → R St) (d i : Nat) : R (List St) := openR tk [123] d i fun j => stmtsM tk st F [] j
def choiceR (tk : Tks) (F d : Nat) (st : Nat → R St) (i : Nat) : R St :=
  (condR tk F d i).bind fun e j => (blockR tk F st d j).bind fun b k =>
    if (tk k).t = [101, 108, 115, 101] then (blockR tk F st d (k + 1)).bind fun c l => .ok (.mk 5 [] [] e [] b c) l else .ok (.mk 5 [] [] e [] b []) k
def stR (tk : Tks) (F : Nat) : Nat → Nat → Nat → R St
  | 0, _, i => .bad 4 i
  | n + 1, d, i =>
    if (tk i).t = [105, 102] then choiceR tk F d (stR tk F n (d + 1)) (i + 1)
    else if (tk i).t = [119, 104, 105, 108, 101] then
      (condR tk F d (i + 1)).bind fun e j => (blockR tk F (stR tk F n (d + 1)) d j).bind fun b k => .ok (.mk 6 [] [] e [] b []) k
    else if (tk i).t = [101, 105, 116, 104, 101, 114] then
      (blockR tk F (stR tk F n (d + 1)) d (i + 1)).bind fun b j => (takeR tk [111, 114] () j).bind fun _ k => (blockR tk F (stR tk F n (d + 1)) d k).bind fun c l => .ok (.mk 7 [] [] [] [] b c) l
    else (plainR tk F d i).bind fun s j => takeR tk [59] s j

def varsM (tk : Tks) : Nat → List (List Nat) → Nat → R (List (List Nat))
  | 0, l, i => .ok l i
  | m + 1, l, i => if (tk i).t = [118, 97, 114] then (nameR tk (i + 1)).bind fun x j => (takeR tk [59] () j).bind fun _ k => varsM tk m (l ++ [x]) k else .ok l i
def resR (tk : Tks) (i : Nat) : R (List Nat) := if (tk i).t = [45, 62] then nameR tk (i + 1) else .ok [] i
def procR (tk : Tks) (F i : Nat) : R Pr :=
  (takeR tk [112, 114, 111, 99] () i).bind fun _ i1 => (nameR tk i1).bind fun x i2 => (listR tk F (nameR tk) i2).bind fun ps i3 => (resR tk i3).bind fun r i4 =>
  (takeR tk [123] () i4).bind fun _ i5 => (varsM tk F [] i5).bind fun vs i6 => (stmtsM tk (stR tk F F 0) F [] i6).bind fun b i7 => .ok ⟨x, ps, r, vs, b⟩ i7
def procsM (tk : Tks) (F : Nat) : Nat → List Pr → Nat → R (List Pr)
  | 0, l, i => .ok l i
  | m + 1, l, i => if (tk i).k = 0 then .ok l i else (procR tk F i).bind fun p j => procsM tk F m (l ++ [p]) j
def progR (tk : Tks) (F : Nat) : R (List Pr) := (procR tk F 0).bind fun p j => procsM tk F F [p] j

end Go.Proofs.YtjofhaakkleecaaDoor.Lx
