/-
  Walks: signs; what is asked of each quotient.
-/
import Derived.Test.YtmnlggmdomcajaaGreatL3
namespace Go.Proofs.YtmnlggmdomcajaaGreat
open Go.RowKit Lm
set_option linter.unusedSimpArgs false
set_option linter.unusedVariables false
set_option maxRecDepth 100000

theorem keepW {w W : World} {g0 g b o off : Nat} {p q r s c p' q' r' s' : Value} (h : Box4 w g0 p q r s) (hc : w.cell? ⟨g, off, none⟩ = some c) (hg : g < w.heap.size) (h' : At4 w b o p' q' r' s') (hl' : b < w.heap.size) (hb : Below w.heap.size w W) :
    W.cell? ⟨g0, 0, none⟩ = some p ∧ W.cell? ⟨g0, 1, none⟩ = some q ∧ W.cell? ⟨g0, 2, none⟩ = some r ∧ W.cell? ⟨g0, 3, none⟩ = some s ∧ W.cell? ⟨g, off, none⟩ = some c ∧ W.cell? ⟨b, o, none⟩ = some p' ∧ W.cell? ⟨b, o + 1, none⟩ = some q' ∧ W.cell? ⟨b, o + 2, none⟩ = some r' ∧ W.cell? ⟨b, o + 3, none⟩ = some s' := by
  obtain ⟨h1, h2, h3, h4⟩ := (h.keep hb).c
  obtain ⟨h5, h6, h7, h8⟩ := h'.below hl' hb
  exact ⟨h1, h2, h3, h4, (bcells hb _ _ hg).trans hc, h5, h6, h7, h8⟩
theorem lpSign_any (w : World) (v : Value) (n : Nat) (r : Rat) (h : RArg w v n r) (hn : n ≤ 5000) :
    Calls Tryz.prog 109 #[v] w fun e w' => e = .returned (.int .i64 (cmpR r 0)) ∧ Below w.heap.size w w' := by
  obtain ⟨n1, a1, k1, c1, n2, a2, k2, c2, rfl⟩ := h.shape
  have hW0 : Below w.heap.size w (w.alloc (.cells #[.bool n1, .slice a1 k1 c1, .bool n2, .slice a2 k2 c2] 26)) := (by repeat (first | exact Below.refl _ _ | refine Below.alloc ?_ ?_ _ | refine Below.setCell ?_ ?_ _ | refine Below.drew ?_ | refine below_drewN ?_ _ | (· simp) | omega | (· simp; omega) | exact Below.size (by assumption) | assumption | refine below_call ?_ (by assumption) ?_))
  have H := hid (h.below hW0)
  have HW := hid hW0
  clear h hW0
  go_enter Tryz.func109, Tryz.ntmps109
  go_wp2_with fail
  generalize w.alloc (.cells #[.bool n1, .slice a1 k1 c1, .bool n2, .slice a2 k2 c2] 26) = W0 at *
  refine (ratCmp_any _ _ _ n 0 r 0 H.out (rarg_zero _) (by omega) (by omega)).mono ?_
  rintro e w1 ⟨rfl, hb⟩
  have HR := hid (below_call HW.out hb HW.out.size)
  clear hb
  go_wp2
  go_ret
  exact ⟨rfl, HR.out⟩
theorem rSign_any (w : World) (v : Value) (n : Nat) (r : Rat) (h : RArg w v n r) (hn : n ≤ 5000) :
    Calls Tryz.prog 79 #[v] w fun e w' => e = .returned (.int .i64 (cmpR r 0)) ∧ Below w.heap.size w w' := by
  obtain ⟨n1, a1, k1, c1, n2, a2, k2, c2, rfl⟩ := h.shape
  have hW0 : Below w.heap.size w (w.alloc (.cells #[.bool n1, .slice a1 k1 c1, .bool n2, .slice a2 k2 c2] 26)) := (by repeat (first | exact Below.refl _ _ | refine Below.alloc ?_ ?_ _ | refine Below.setCell ?_ ?_ _ | refine Below.drew ?_ | refine below_drewN ?_ _ | (· simp) | omega | (· simp; omega) | exact Below.size (by assumption) | assumption | refine below_call ?_ (by assumption) ?_))
  have H := hid (h.below hW0)
  have HW := hid hW0
  clear h hW0
  go_enter Tryz.func79, Tryz.ntmps79
  go_wp2_with fail
  generalize w.alloc (.cells #[.bool n1, .slice a1 k1 c1, .bool n2, .slice a2 k2 c2] 26) = W0 at *
  refine (cmpRat_any _ _ _ n 0 r 0 H.out (rarg_zero _) (by omega) (by omega)).mono ?_
  rintro e w1 ⟨rfl, hb⟩
  have HR := hid (below_call HW.out hb HW.out.size)
  clear hb
  go_wp2
  go_ret
  exact ⟨rfl, HR.out⟩
theorem fit1_any (w : World) (i : Int) (v : Value) (n : Nat) (r : Rat) (h : RArg w v n r) (hn : n ≤ 5000) :
    Calls Tryz.prog 108 #[.int .i64 i, v] w fun e w' => e = .returned (.bool (decide (0 ≤ cmpR r 0))) ∧ Below w.heap.size w w' := by
  obtain ⟨n1, a1, k1, c1, n2, a2, k2, c2, rfl⟩ := h.shape
  have hW0 : Below w.heap.size w (w.alloc (.cells #[.bool n1, .slice a1 k1 c1, .bool n2, .slice a2 k2 c2] 26)) := (by repeat (first | exact Below.refl _ _ | refine Below.alloc ?_ ?_ _ | refine Below.setCell ?_ ?_ _ | refine Below.drew ?_ | refine below_drewN ?_ _ | (· simp) | omega | (· simp; omega) | exact Below.size (by assumption) | assumption | refine below_call ?_ (by assumption) ?_))
  have H := hid (h.below hW0)
  have HW := hid hW0
  clear h hW0
  go_enter Tryz.func108, Tryz.ntmps108
  go_wp2_with fail
  generalize w.alloc (.cells #[.bool n1, .slice a1 k1 c1, .bool n2, .slice a2 k2 c2] 26) = W0 at *
  refine (lpSign_any _ _ n r H.out hn).mono ?_
  rintro e w1 ⟨rfl, hb⟩
  have HR := hid (below_call HW.out hb HW.out.size)
  clear hb
  obtain ⟨z, hz⟩ : ∃ z, cmpR r 0 = z := ⟨_, rfl⟩
  have HZ := hid hz
  rw [hz]
  clear hz
  go_wp2
  go_ret
  exact ⟨ret_bool (by rw [HZ.out]), HR.out⟩
theorem makeN1_any (w : World) (i : Int) (v : Value) (n : Nat) (r : Rat) (h : RArg w v n r) (hn : n ≤ 5000) :
    Calls Tryz.prog 113 #[.int .i64 i, v] w fun e w' => e = .returned (.bool (cmpR r 0 == 0)) ∧ Below w.heap.size w w' := by
  obtain ⟨n1, a1, k1, c1, n2, a2, k2, c2, rfl⟩ := h.shape
  have hW0 : Below w.heap.size w (w.alloc (.cells #[.bool n1, .slice a1 k1 c1, .bool n2, .slice a2 k2 c2] 26)) := (by repeat (first | exact Below.refl _ _ | refine Below.alloc ?_ ?_ _ | refine Below.setCell ?_ ?_ _ | refine Below.drew ?_ | refine below_drewN ?_ _ | (· simp) | omega | (· simp; omega) | exact Below.size (by assumption) | assumption | refine below_call ?_ (by assumption) ?_))
  have H := hid (h.below hW0)
  have HW := hid hW0
  clear h hW0
  go_enter Tryz.func113, Tryz.ntmps113
  go_wp2_with fail
  generalize w.alloc (.cells #[.bool n1, .slice a1 k1 c1, .bool n2, .slice a2 k2 c2] 26) = W0 at *
  refine (lpSign_any _ _ n r H.out hn).mono ?_
  rintro e w1 ⟨rfl, hb⟩
  have HR := hid (below_call HW.out hb HW.out.size)
  clear hb
  obtain ⟨z, hz⟩ : ∃ z, cmpR r 0 = z := ⟨_, rfl⟩
  have HZ := hid hz
  rw [hz]
  clear hz
  go_wp2
  go_ret
  exact ⟨ret_bool (by rw [HZ.out]), HR.out⟩
theorem ray1_any (w : World) (i : Int) (v : Value) (n : Nat) (r : Rat) (h : RArg w v n r) (hn : n ≤ 5000) :
    Calls Tryz.prog 114 #[.int .i64 i, v] w fun e w' => e = .returned (.bool (decide (cmpR r 0 ≤ 0))) ∧ Below w.heap.size w w' := by
  obtain ⟨n1, a1, k1, c1, n2, a2, k2, c2, rfl⟩ := h.shape
  have hW0 : Below w.heap.size w (w.alloc (.cells #[.bool n1, .slice a1 k1 c1, .bool n2, .slice a2 k2 c2] 26)) := (by repeat (first | exact Below.refl _ _ | refine Below.alloc ?_ ?_ _ | refine Below.setCell ?_ ?_ _ | refine Below.drew ?_ | refine below_drewN ?_ _ | (· simp) | omega | (· simp; omega) | exact Below.size (by assumption) | assumption | refine below_call ?_ (by assumption) ?_))
  have H := hid (h.below hW0)
  have HW := hid hW0
  clear h hW0
  go_enter Tryz.func114, Tryz.ntmps114
  go_wp2_with fail
  generalize w.alloc (.cells #[.bool n1, .slice a1 k1 c1, .bool n2, .slice a2 k2 c2] 26) = W0 at *
  refine (lpSign_any _ _ n r H.out hn).mono ?_
  rintro e w1 ⟨rfl, hb⟩
  have HR := hid (below_call HW.out hb HW.out.size)
  clear hb
  obtain ⟨z, hz⟩ : ∃ z, cmpR r 0 = z := ⟨_, rfl⟩
  have HZ := hid hz
  rw [hz]
  clear hz
  go_wp2
  go_ret
  exact ⟨ret_bool (by rw [HZ.out]), HR.out⟩
set_option maxHeartbeats 1600000 in
theorem within1_any (w : World) (g i : Nat) (v : Value) (n m kb cb : Nat) (bo : Option Addr) (r : Rat) (B : List Rat) (x0 x1 x2 : Value) (h : RArg w v n r) (hB : QSl w (.slice bo kb cb) m B) (hi : i < B.length) (hL : BoxL w g x0 x1 (.slice bo kb cb) x2) (hn : n ≤ 5000) (hm : m ≤ 5000) :
    Calls Tryz.prog 60 #[.int .i64 (i : Int), v, .pointer (some ⟨g, 0, none⟩)] w fun e w' => e = .returned (.bool (decide (cmpR r B[i] ≤ 0))) ∧ Below w.heap.size w w' := by
  obtain ⟨n1, a1, k1, c1, n2, a2, k2, c2, rfl⟩ := h.shape
  obtain ⟨hkb, hk64⟩ := hB.len
  obtain ⟨b1, o1, rfl, l1, hc⟩ := hB.cellsAt (by omega)
  obtain ⟨n3, a3, k3, c3, n4, a4, k4, c4, hC, hY⟩ := hc i hi
  have hW0 : Below w.heap.size w (w.alloc (.cells #[.bool n1, .slice a1 k1 c1, .bool n2, .slice a2 k2 c2] 26)) := (by repeat (first | exact Below.refl _ _ | refine Below.alloc ?_ ?_ _ | refine Below.setCell ?_ ?_ _ | refine Below.drew ?_ | refine below_drewN ?_ _ | (· simp) | omega | (· simp; omega) | exact Below.size (by assumption) | assumption | refine below_call ?_ (by assumption) ?_))
  have bA : Box4 (w.alloc (.cells #[.bool n1, .slice a1 k1 c1, .bool n2, .slice a2 k2 c2] 26)) w.heap.size (.bool n1) (.slice a1 k1 c1) (.bool n2) (.slice a2 k2 c2) := Box4.new _ _ _ _ _ _ rfl
  have hik : i < kb := by omega
  have hg := (hL.keep hW0)
  have hCW : At4 (w.alloc (.cells #[.bool n1, .slice a1 k1 c1, .bool n2, .slice a2 k2 c2] 26)) b1 (o1 + i * 4) (.bool n3) (.slice a3 k3 c3) (.bool n4) (.slice a4 k4 c4) := hC.below l1 hW0
  have l1W : b1 < (w.alloc (.cells #[.bool n1, .slice a1 k1 c1, .bool n2, .slice a2 k2 c2] 26)).heap.size := Nat.lt_of_lt_of_le l1 hW0.size
  have H := hid (h.below hW0)
  have HY := hid (hY.below hW0)
  have HW := hid hW0
  have glt := hg.lt
  clear h hW0 hB hc hC hY hL
  obtain ⟨t, ht⟩ : ∃ t, B[i] = t := ⟨_, rfl⟩
  have HT := hid ht
  rw [ht] at HY
  clear ht
  obtain ⟨z, hz⟩ : ∃ z, cmpR r t = z := ⟨_, rfl⟩
  have HZ := hid hz
  clear hz
  go_enter Tryz.func60, Tryz.ntmps60
  go_wp2_with fail
  generalize w.alloc (.cells #[.bool n1, .slice a1 k1 c1, .bool n2, .slice a2 k2 c2] 26) = W0 at *
  have HBW : Below W0.heap.size W0 W0.drew := (Below.refl _ _).drew
  go_region_held3 (fun W' => W'.cell? ⟨w.heap.size, 0, none⟩ = some (.bool n1) ∧ W'.cell? ⟨w.heap.size, 1, none⟩ = some (.slice a1 k1 c1) ∧ W'.cell? ⟨w.heap.size, 2, none⟩ = some (.bool n2) ∧ W'.cell? ⟨w.heap.size, 3, none⟩ = some (.slice a2 k2 c2) ∧ W'.cell? ⟨g, 2, none⟩ = some (.slice (some ⟨b1, o1, none⟩) kb cb) ∧ W'.cell? ⟨b1, o1 + i * 4, none⟩ = some (.bool n3) ∧ W'.cell? ⟨b1, o1 + i * 4 + 1, none⟩ = some (.slice a3 k3 c3) ∧ W'.cell? ⟨b1, o1 + i * 4 + 2, none⟩ = some (.bool n4) ∧ W'.cell? ⟨b1, o1 + i * 4 + 3, none⟩ = some (.slice a4 k4 c4)) (exact keepW bA hg.c.2.2.1 glt hCW l1W HBW) (first
    | (go_at_call 45; go_must (refine (ratCmp_any _ _ _ n m r t (H.out.below HBW) (HY.out.below HBW) (by omega) (by omega)).mono ?_); rintro e w1 ⟨rfl, hb⟩; rw [HZ.out]; have HBn := below_call HBW hb HBW.size; clear HBW hb; have HBW := HBn; clear HBn))
  have HR := hid (below_call HW.out HBW HW.out.size)
  clear HBW
  go_wp2
  go_ret
  exact ⟨ret_bool (by rw [HT.out, HZ.out]), HR.out⟩
set_option maxHeartbeats 1600000 in
theorem makeC1_any (w : World) (g i : Nat) (v : Value) (n m kb cb : Nat) (bo : Option Addr) (r : Rat) (B : List Rat) (x0 x1 x2 : Value) (h : RArg w v n r) (hB : QSl w (.slice bo kb cb) m B) (hi : i < B.length) (hL : BoxL w g x0 x1 x2 (.slice bo kb cb)) (hn : n ≤ 5000) (hm : m ≤ 5000) :
    Calls Tryz.prog 111 #[.int .i64 (i : Int), v, .pointer (some ⟨g, 0, none⟩)] w fun e w' => e = .returned (.bool (cmpR r B[i] == 0)) ∧ Below w.heap.size w w' := by
  obtain ⟨n1, a1, k1, c1, n2, a2, k2, c2, rfl⟩ := h.shape
  obtain ⟨hkb, hk64⟩ := hB.len
  obtain ⟨b1, o1, rfl, l1, hc⟩ := hB.cellsAt (by omega)
  obtain ⟨n3, a3, k3, c3, n4, a4, k4, c4, hC, hY⟩ := hc i hi
  have hW0 : Below w.heap.size w (w.alloc (.cells #[.bool n1, .slice a1 k1 c1, .bool n2, .slice a2 k2 c2] 26)) := (by repeat (first | exact Below.refl _ _ | refine Below.alloc ?_ ?_ _ | refine Below.setCell ?_ ?_ _ | refine Below.drew ?_ | refine below_drewN ?_ _ | (· simp) | omega | (· simp; omega) | exact Below.size (by assumption) | assumption | refine below_call ?_ (by assumption) ?_))
  have bA : Box4 (w.alloc (.cells #[.bool n1, .slice a1 k1 c1, .bool n2, .slice a2 k2 c2] 26)) w.heap.size (.bool n1) (.slice a1 k1 c1) (.bool n2) (.slice a2 k2 c2) := Box4.new _ _ _ _ _ _ rfl
  have hik : i < kb := by omega
  have hg := (hL.keep hW0)
  have hCW : At4 (w.alloc (.cells #[.bool n1, .slice a1 k1 c1, .bool n2, .slice a2 k2 c2] 26)) b1 (o1 + i * 4) (.bool n3) (.slice a3 k3 c3) (.bool n4) (.slice a4 k4 c4) := hC.below l1 hW0
  have l1W : b1 < (w.alloc (.cells #[.bool n1, .slice a1 k1 c1, .bool n2, .slice a2 k2 c2] 26)).heap.size := Nat.lt_of_lt_of_le l1 hW0.size
  have H := hid (h.below hW0)
  have HY := hid (hY.below hW0)
  have HW := hid hW0
  have glt := hg.lt
  clear h hW0 hB hc hC hY hL
  obtain ⟨t, ht⟩ : ∃ t, B[i] = t := ⟨_, rfl⟩
  have HT := hid ht
  rw [ht] at HY
  clear ht
  obtain ⟨z, hz⟩ : ∃ z, cmpR r t = z := ⟨_, rfl⟩
  have HZ := hid hz
  clear hz
  go_enter Tryz.func111, Tryz.ntmps111
  go_wp2_with fail
  generalize w.alloc (.cells #[.bool n1, .slice a1 k1 c1, .bool n2, .slice a2 k2 c2] 26) = W0 at *
  have HBW : Below W0.heap.size W0 W0.drew := (Below.refl _ _).drew
  go_region_held3 (fun W' => W'.cell? ⟨w.heap.size, 0, none⟩ = some (.bool n1) ∧ W'.cell? ⟨w.heap.size, 1, none⟩ = some (.slice a1 k1 c1) ∧ W'.cell? ⟨w.heap.size, 2, none⟩ = some (.bool n2) ∧ W'.cell? ⟨w.heap.size, 3, none⟩ = some (.slice a2 k2 c2) ∧ W'.cell? ⟨g, 3, none⟩ = some (.slice (some ⟨b1, o1, none⟩) kb cb) ∧ W'.cell? ⟨b1, o1 + i * 4, none⟩ = some (.bool n3) ∧ W'.cell? ⟨b1, o1 + i * 4 + 1, none⟩ = some (.slice a3 k3 c3) ∧ W'.cell? ⟨b1, o1 + i * 4 + 2, none⟩ = some (.bool n4) ∧ W'.cell? ⟨b1, o1 + i * 4 + 3, none⟩ = some (.slice a4 k4 c4)) (exact keepW bA hg.c.2.2.2 glt hCW l1W HBW) (first
    | (go_at_call 45; go_must (refine (ratCmp_any _ _ _ n m r t (H.out.below HBW) (HY.out.below HBW) (by omega) (by omega)).mono ?_); rintro e w1 ⟨rfl, hb⟩; rw [HZ.out]; have HBn := below_call HBW hb HBW.size; clear HBW hb; have HBW := HBn; clear HBn))
  have HR := hid (below_call HW.out HBW HW.out.size)
  clear HBW
  go_wp2
  go_ret
  exact ⟨ret_bool (by rw [HT.out, HZ.out]), HR.out⟩

end Go.Proofs.YtmnlggmdomcajaaGreat
