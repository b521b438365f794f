/-
  Plain mathematics: how deep may what stand in one another; the document's example.
  Walks: the document's example.
-/
import Derived.Test.YtjofhaakkleecaaDoorQ24

namespace Go.Proofs.YtjofhaakkleecaaDoor
open Go.RowKit Lx
set_option linter.unusedSimpArgs false
set_option linter.unusedVariables false
set_option maxRecDepth 100000

def txt (s : String) : List Nat := s.toList.map Char.toNat
def rep (k : Nat) (l : List Nat) : List Nat := match k with | 0 => [] | k + 1 => l ++ rep k l
def ahD (c : Nat) : List Nat := if c = 0 then [40] else if c = 1 then [45] else if c = 2 then [110, 111, 116] else [91]
def beD (c : Nat) : List Nat := if c = 0 then [41] else if c = 1 then [] else if c = 2 then [] else [93]
def bgD (c : Nat) : List Nat := if c < 2 then [112, 114, 111, 99, 32, 109, 32, 40, 32, 41, 32, 123, 32, 120, 32, 61, 32] else [112, 114, 111, 99, 32, 109, 32, 40, 32, 41, 32, 123, 32, 97, 115, 115, 117, 109, 101, 32]
def miD (c : Nat) : List Nat := if c < 2 then [49] else [116, 114, 117, 101]
def deepS (c k : Nat) : List Nat := (((bgD c ++ rep k (32 :: ahD c)) ++ (32 :: miD c)) ++ rep k (32 :: beD c)) ++ [32, 59, 32, 125]
def deepT (k : Nat) : List Nat := (([112, 114, 111, 99, 32, 109, 32, 40, 32, 41, 32, 123] ++ rep k [32, 119, 104, 105, 108, 101, 32, 42, 32, 123]) ++ rep k [32, 125]) ++ [32, 125]
def okS (c j : Nat) : Bool := (progS (deepS c (j + 1))).2 == (if j < 50 then (0, 0) else (5, (bgD c).length + 50 * (1 + (ahD c).length) + 1))
def okTt (j : Nat) : Bool := (progS (deepT (j + 1))).2 == (if j < 50 then (0, 0) else (5, 521))
theorem awake_pure8 : progS [112, 114, 111, 99, 32, 109, 32, 40, 32, 41, 32, 123, 32, 120, 32, 61, 32, 49, 32, 43, 32, 50, 32, 59, 32, 125] = ([⟨[109], [], [], [], [.mk 1 [120] [] [⟨1, 1, [], -1, -1⟩, ⟨1, 2, [], -1, -1⟩, ⟨4, 0, [], 0, 1⟩] [] [] []]⟩], 0, 0) := by kernel_rfl
end Go.Proofs.YtjofhaakkleecaaDoor

namespace Go.Proofs.YtjofhaakkleecaaDoor
open Go.RowKit Lx
set_option linter.unusedSimpArgs false
set_option linter.unusedVariables false
set_option maxRecDepth 100000

theorem pnum_any (w : World) (x : Int) : Calls Tryd.prog 9 #[.int .i64 x] w fun e w' => e = .returned (.int .i64 x) ∧ w' = w := by
  go_enter Tryd.func9, Tryd.ntmps9
  go_wp2
  go_ret
  exact ⟨rfl, rfl⟩
theorem pg_one {w : World} {ok : Nat → Prop} {n r : List Nat} {ps vs : List (List Nat)} {k : Nat} {nm pr : List Nat} {e : List Nd} {a : List (List Nd)} {b l : List St} {v : Value} (h : PgV w ok [⟨n, ps, r, vs, [.mk k nm pr e a b l]⟩] v) :
    ∃ gP cg gB cb ae ce, v = .agg #[.slice (some ⟨gP, 0, none⟩) 1 cg] ∧ 1 ≤ cg ∧ gP < w.heap.size ∧ w.cell? ⟨gP, 4, none⟩ = some (.slice (some ⟨gB, 0, none⟩) 1 cb) ∧ 1 ≤ cb ∧ gB < w.heap.size ∧ w.cell? ⟨gB, 3, none⟩ = some (.slice ae e.length ce) := by
  obtain ⟨ag, mg, cg, rfl, C, hsl, hp⟩ := h
  cases C with
  | nil => exact hp.elim
  | cons c C =>
    obtain ⟨⟨hc5, hpr⟩, hp2⟩ := hp
    cases C with
    | cons c2 C => exact hp2.elim
    | nil =>
      clear hp2
      unfold PrV at hpr
      obtain ⟨ap, mp, cp, av, mv, cv, ab, mb, cb, he, -, -, hbody⟩ := hpr
      unfold SsF at hbody
      obtain ⟨vb, hb1, hb2⟩ := hbody
      have hcl : c = [.string (str n), .slice ap mp cp, .string (str r), .slice av mv cv, .slice ab mb cb] := by
        simp only [Value.agg.injEq] at he
        have := congrArg Array.toList he
        simpa using this
      unfold SlF at hsl
      obtain ⟨hsl1, hc1, -, hs⟩ := hsl
      have hsl1 : mg = 1 := hsl1
      subst hsl1
      unfold StsV at hb2
      obtain ⟨d, rr, hvb, hd7, hst, hrr⟩ := hb2
      unfold StsV at hrr
      subst hrr
      subst hvb
      unfold SlF at hb1
      obtain ⟨hb11, hb3, -, hb4⟩ := hb1
      have hb11 : mb = 1 := hb11
      subst hb11
      unfold StV at hst
      obtain ⟨ae, me, ce, aa, ma, ca, ab', mb', cb', al, ml, cl, vb, vl, hev, hnd, -⟩ := hst
      have hdl : d = [.int .i64 (k : Int), .string (str nm), .string (str pr), .slice ae me ce, .slice aa ma ca, .slice ab' mb' cb', .slice al ml cl] := by
        simp only [Value.agg.injEq] at hev
        have := congrArg Array.toList hev
        simpa using this
      unfold NdF SlF at hnd
      obtain ⟨hnd1, -⟩ := hnd
      rw [List.length_map] at hnd1
      subst hnd1
      obtain ⟨gP, hP1, -, hg, hcell⟩ := hs.resolve_left (by omega)
      obtain ⟨gB, hB1, -, hgB, hcB⟩ := hb4.resolve_left (by omega)
      subst hP1
      subst hB1
      have h4 := hcell 0 (by simp) 4 (.slice (some ⟨gB, 0, none⟩) 1 cb) (by simp [hcl])
      have h3 := hcB 0 (by simp) 3 (.slice ae e.length ce) (by simp [hdl])
      exact ⟨gP, cg, gB, cb, ae, ce, rfl, hc1, hg, by simpa using h4, hb3, hgB, by simpa using h3⟩
theorem awake8_any (w : World) : Calls Tryd.prog 6 #[] w fun e w' => e = .returned (.bool true) ∧ Below w.heap.size w w' := by
  have HP := hid (pProg_any w (str [112, 114, 111, 99, 32, 109, 32, 40, 32, 41, 32, 123, 32, 120, 32, 61, 32, 49, 32, 43, 32, 50, 32, 59, 32, 125]) (by simp [str, ByteArray.size]))
  rw [lst_str (by simp), awake_pure8] at HP
  go_enter Tryd.func6, Tryd.ntmps6
  go_wp2_with fail
  refine HP.out.mono ?_
  rintro e w1 ⟨v, rfl, hv, hb1⟩
  obtain ⟨gP, cg, gB, cb, ae, ce, rfl, hc1, hgP, h4, hcb, hgB, h3⟩ := pg_one hv
  have HB := hid hb1
  clear hv hb1 HP
  go_wp2_with fail
  refine (pnum_any _ _).mono ?_
  rintro e w2 ⟨rfl, rfl⟩
  go_wp2
  go_ret
  exact ⟨rfl, HB.out.alloc HB.out.size _⟩
end Go.Proofs.YtjofhaakkleecaaDoor
