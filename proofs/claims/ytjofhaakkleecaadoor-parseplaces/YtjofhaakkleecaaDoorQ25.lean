/-
  Plain mathematics: how deep may what stand in one another; the document's example.
-/
import Derived.Test.YtjofhaakkleecaaDoorQ24
namespace Go.Proofs.YtjofhaakkleecaaDoor
open Go.RowKit Lx
set_option linter.unusedSimpArgs false
set_option linter.unusedVariables false
set_option maxRecDepth 100000

def txt (s : String) : List Nat := s.toList.map Char.toNat
def rep (k : Nat) (l : List Nat) : List Nat := match k with | 0 => [] | k + 1 => l ++ rep k l
def ahD (c : Nat) : List Nat := if c = 0 then [40] else if c = 1 then [45] else if c = 2 then [110, 111, 116] else [91]
def beD (c : Nat) : List Nat := if c = 0 then [41] else if c = 1 then [] else if c = 2 then [] else [93]
def bgD (c : Nat) : List Nat := if c < 2 then [112, 114, 111, 99, 32, 109, 32, 40, 32, 41, 32, 123, 32, 120, 32, 61, 32] else [112, 114, 111, 99, 32, 109, 32, 40, 32, 41, 32, 123, 32, 97, 115, 115, 117, 109, 101, 32]
def miD (c : Nat) : List Nat := if c < 2 then [49] else [116, 114, 117, 101]
def deepS (c k : Nat) : List Nat := (((bgD c ++ rep k (32 :: ahD c)) ++ (32 :: miD c)) ++ rep k (32 :: beD c)) ++ [32, 59, 32, 125]
def deepT (k : Nat) : List Nat := (([112, 114, 111, 99, 32, 109, 32, 40, 32, 41, 32, 123] ++ rep k [32, 119, 104, 105, 108, 101, 32, 42, 32, 123]) ++ rep k [32, 125]) ++ [32, 125]
def okS (c j : Nat) : Bool := (progS (deepS c (j + 1))).2 == (if j < 50 then (0, 0) else (5, (bgD c).length + 50 * (1 + (ahD c).length) + 1))
def okTt (j : Nat) : Bool := (progS (deepT (j + 1))).2 == (if j < 50 then (0, 0) else (5, 521))
theorem awake_pure8 : progS [112, 114, 111, 99, 32, 109, 32, 40, 32, 41, 32, 123, 32, 120, 32, 61, 32, 49, 32, 43, 32, 50, 32, 59, 32, 125] = ([⟨[109], [], [], [], [.mk 1 [120] [] [⟨1, 1, [], -1, -1⟩, ⟨1, 2, [], -1, -1⟩, ⟨4, 0, [], 0, 1⟩] [] [] []]⟩], 0, 0) := by kernel_rfl
end Go.Proofs.YtjofhaakkleecaaDoor
