/-
  What is known from call to call, of numbers and quotients; boxes of quotients that are filled.
-/
import Derived.Test.YtiicjfacekldnaaW33
namespace Go.Proofs.Ytiicjfacekldnaa
open Go.RowKit Lm
set_option linter.unusedSimpArgs false
set_option linter.unusedVariables false
set_option maxRecDepth 100000

/-- A quotient's box: no limbs lie in it. -/
theorem SlAt.off4 {W W' : World} {ao : Option Addr} {cap g k1 d1 k2 d2 : Nat} {l : List Nat} {a1 a2 : Option Addr} {b1 b2 : Bool} (h : SlAt W ao cap l) (hg : Box4 W g (.bool b1) (.slice a1 k1 d1) (.bool b2) (.slice a2 k2 d2)) (hW : W.grownBy W' (some g)) : SlAt W' ao cap l := by
  by_cases h0 : l.length = 0
  · obtain ⟨h1, h2, h3, h4⟩ := h
    refine ⟨h1, h2, h3, ?_⟩
    rcases h4 with h4 | ⟨b', off, e, hlt, hc⟩
    · exact .inl h4
    · exact .inl ⟨h0, fun h => by rw [e] at h; simp at h⟩
  · refine slAt_grow h hW ?_
    rintro ad rfl hb
    obtain ⟨-, -, -, h4⟩ := h
    rcases h4 with h4 | ⟨b', off, e, hlt, hc⟩
    · exact h0 h4.1
    · simp only [Option.some.injEq] at e
      subst e
      simp only at hb
      subst hb
      have h5 := hc 0 (by omega)
      rw [cell_of_row W b' (off + 0) #[.bool b1, .slice a1 k1 d1, .bool b2, .slice a2 k2 d2] 43 (0, 0) hg] at h5
      rcases (show off = 0 ∨ off = 1 ∨ off = 2 ∨ off = 3 ∨ 4 ≤ off by omega) with rfl | rfl | rfl | rfl | h6
      · simp at h5
      · simp at h5
      · simp at h5
      · simp at h5
      · rw [Array.getElem?_eq_none (by simp; omega)] at h5
        simp at h5
/-- A box that is filled. -/
def fill4 (W : World) (g : Nat) (p q r s : Value) : World := (((W.setCell ⟨g, 0, none⟩ p).setCell ⟨g, 1, none⟩ q).setCell ⟨g, 2, none⟩ r).setCell ⟨g, 3, none⟩ s
theorem grow4 (W : World) (g : Nat) (p q r s : Value) : W.grownBy (fill4 W g p q r s) (some g) := grow_set (grow_set (grow_set (grow_set (grow_refl _ _) _ _) _ _) _ _) _ _
theorem size4 (W : World) (g : Nat) (p q r s : Value) : (fill4 W g p q r s).heap.size = W.heap.size := by simp [fill4, World.setCell]
theorem Box4.filled {W : World} {g : Nat} {a b c d : Value} (h : Box4 W g a b c d) (p q r s : Value) : Box4 (fill4 W g p q r s) g p q r s := by
  have h1 : Box4 (W.setCell ⟨g, 0, none⟩ p) g p b c d := by unfold Box4; rw [heap_setCell_same W g 0 _ _ p h]; rfl
  have h2 : Box4 ((W.setCell ⟨g, 0, none⟩ p).setCell ⟨g, 1, none⟩ q) g p q c d := by unfold Box4; rw [heap_setCell_same _ g 1 _ _ q h1]; rfl
  have h3 : Box4 (((W.setCell ⟨g, 0, none⟩ p).setCell ⟨g, 1, none⟩ q).setCell ⟨g, 2, none⟩ r) g p q r d := by unfold Box4; rw [heap_setCell_same _ g 2 _ _ r h2]; rfl
  unfold fill4 Box4
  rw [heap_setCell_same _ g 3 _ _ s h3]
  rfl
theorem Box4.beside {W : World} {g h : Nat} {a b c d : Value} (hg : Box4 W g a b c d) (hne : g ≠ h) (p q r s : Value) : Box4 (fill4 W h p q r s) g a b c d := (((hg.other hne _).other hne _).other hne _).other hne _
theorem Box.beside4 {W : World} {g h : Nat} {a b : Value} (hg : Box W g a b) (hne : g ≠ h) (p q r s : Value) : Box (fill4 W h p q r s) g a b := (((hg.other hne _).other hne _).other hne _).other hne _
theorem below_fill4 {B : Nat} {w W : World} {g : Nat} (h : Below B w W) (hg : B ≤ g) (p q r s : Value) : Below B w (fill4 W g p q r s) := (((h.setCell hg _).setCell hg _).setCell hg _).setCell hg _
theorem fill4_eq (W : World) (g : Nat) (p q r s : Value) : (((W.setCell ⟨g, 0, none⟩ p).setCell ⟨g, 1, none⟩ q).setCell ⟨g, 2, none⟩ r).setCell ⟨g, 3, none⟩ s = fill4 W g p q r s := rfl

structure RE (U W : World) (KA KI : List (Value × Nat × Int)) (KR KS : List (Value × Nat × Rat)) : Prop where
  a : ∀ p ∈ KA, Arg W p.1 p.2.1 p.2.2
  i : ∀ p ∈ KI, Is W 0 p.1 p.2.1 p.2.2
  r : ∀ p ∈ KR, RArg W p.1 p.2.1 p.2.2
  s : ∀ p ∈ KS, RIs W 0 p.1 p.2.1 p.2.2
  bl : Below U.heap.size U W

variable {U W W' : World} {KA KI KA' KI' : List (Value × Nat × Int)} {KR KS KR' KS' : List (Value × Nat × Rat)} {u v : Value} {n m : Nat} {x y : Int} {r t : Rat}

theorem RE.none (W : World) : RE W W [] [] [] [] := ⟨by simp, by simp, by simp, by simp, Below.refl _ _⟩
theorem RE.step (E : RE U W KA KI KR KS) (hb : Below W.heap.size W W') : RE U W' KA KI KR KS :=
  ⟨fun p hp => (E.a p hp).below hb, fun p hp => (E.i p hp).below hb, fun p hp => (E.r p hp).below hb, fun p hp => (E.s p hp).below hb, below_call E.bl hb E.bl.size⟩
theorem RE.drew (E : RE U W KA KI KR KS) : RE U W.drew KA KI KR KS :=
  ⟨fun p hp => E.a p hp, fun p hp => (E.i p hp).drew, fun p hp => E.r p hp, fun p hp => E.s p hp, E.bl.drew⟩
theorem RE.alloc (E : RE U W KA KI KR KS) (o : Obj) : RE U (W.alloc o) KA KI KR KS := E.step ((Below.refl _ _).alloc (Nat.le_refl _) o)
theorem RE.rebase (E : RE U W KA KI KR KS) : RE W W KA KI KR KS := ⟨E.a, E.i, E.r, E.s, Below.refl _ _⟩
theorem RE.onto {w : World} (hU : Below w.heap.size w U) (E : RE U W KA KI KR KS) : RE w W KA KI KR KS := ⟨E.a, E.i, E.r, E.s, below_call hU E.bl hU.size⟩
theorem RE.less (E : RE U W KA KI KR KS) (hA : ∀ p ∈ KA', p ∈ KA) (hI : ∀ p ∈ KI', p ∈ KI) (hR : ∀ p ∈ KR', p ∈ KR) (hS : ∀ p ∈ KS', p ∈ KS) : RE U W KA' KI' KR' KS' :=
  ⟨fun p hp => E.a p (hA p hp), fun p hp => E.i p (hI p hp), fun p hp => E.r p (hR p hp), fun p hp => E.s p (hS p hp), E.bl⟩
theorem RE.know (E : RE U W KA KI KR KS) (h : Arg W v n x) : RE U W ((v, n, x) :: KA) KI KR KS := by
  refine ⟨fun p hp => ?_, E.i, E.r, E.s, E.bl⟩
  rcases List.mem_cons.1 hp with rfl | h'
  · exact h
  · exact E.a p h'
theorem RE.knowR (E : RE U W KA KI KR KS) (h : RArg W v n r) : RE U W KA KI ((v, n, r) :: KR) KS := by
  refine ⟨E.a, E.i, fun p hp => ?_, E.s, E.bl⟩
  rcases List.mem_cons.1 hp with rfl | h'
  · exact h
  · exact E.r p h'
theorem RE.knowI {lo : Nat} (E : RE U W KA KI KR KS) (h : Is W lo v n x) : RE U W ((v, n, x) :: KA) ((v, n, x) :: KI) KR KS := by
  have E2 := E.know h.arg
  refine ⟨E2.a, fun p hp => ?_, E2.r, E2.s, E2.bl⟩
  rcases List.mem_cons.1 hp with rfl | h'
  · exact h.mono (Nat.zero_le _) (Nat.le_refl _)
  · exact E.i p h'
theorem RE.knowS {lo : Nat} (E : RE U W KA KI KR KS) (h : RIs W lo v n r) : RE U W KA KI ((v, n, r) :: KR) ((v, n, r) :: KS) := by
  have E2 := E.knowR h.arg
  refine ⟨E2.a, E2.i, E2.r, fun p hp => ?_, E2.bl⟩
  rcases List.mem_cons.1 hp with rfl | h'
  · exact h.mono (Nat.zero_le _) (Nat.le_refl _)
  · exact E.s p h'
theorem Arg.off4 {g k1 d1 k2 d2 : Nat} {a1 a2 : Option Addr} {b1 b2 : Bool} (h : Arg W v n x) (hg : Box4 W g (.bool b1) (.slice a1 k1 d1) (.bool b2) (.slice a2 k2 d2)) (hW : W.grownBy W' (some g)) : Arg W' v n x := by
  obtain ⟨neg, sv, l, e, ⟨ao, cap, e2, hs⟩, hr⟩ := h
  exact ⟨neg, sv, l, e, ⟨ao, cap, e2, hs.off4 hg hW⟩, hr⟩
theorem Is.off4 {lo g k1 d1 k2 d2 : Nat} {a1 a2 : Option Addr} {b1 b2 : Bool} (h : Is W lo v n x) (hg : Box4 W g (.bool b1) (.slice a1 k1 d1) (.bool b2) (.slice a2 k2 d2)) (hW : W.grownBy W' (some g)) : Is W' lo v n x := by
  obtain ⟨neg, ao, cap, l, e, hs, hr⟩ := h
  exact ⟨neg, ao, cap, l, e, hs.off4 hg hW, hr⟩
theorem RArg.off4 {g k1 d1 k2 d2 : Nat} {a1 a2 : Option Addr} {b1 b2 : Bool} (h : RArg W v n r) (hg : Box4 W g (.bool b1) (.slice a1 k1 d1) (.bool b2) (.slice a2 k2 d2)) (hW : W.grownBy W' (some g)) : RArg W' v n r := by
  obtain ⟨n1, s1, l1, n2, s2, l2, e, ⟨p1, q1, e1, h1⟩, ⟨p2, q2, e2, h2⟩, hr⟩ := h
  exact ⟨n1, s1, l1, n2, s2, l2, e, ⟨p1, q1, e1, h1.off4 hg hW⟩, ⟨p2, q2, e2, h2.off4 hg hW⟩, hr⟩
theorem RIs.off4 {lo g k1 d1 k2 d2 : Nat} {a1 a2 : Option Addr} {b1 b2 : Bool} (h : RIs W lo v n r) (hg : Box4 W g (.bool b1) (.slice a1 k1 d1) (.bool b2) (.slice a2 k2 d2)) (hW : W.grownBy W' (some g)) : RIs W' lo v n r := by
  obtain ⟨n1, p1, q1, c1, n2, p2, q2, c2, e, h1, h2⟩ := h
  exact ⟨n1, p1, q1, c1, n2, p2, q2, c2, e, h1.off4 hg hW, h2.off4 hg hW⟩
theorem RE.fill {g k1 d1 k2 d2 : Nat} {a1 a2 : Option Addr} {b1 b2 : Bool} (E : RE U W KA KI KR KS) (hg : Box4 W g (.bool b1) (.slice a1 k1 d1) (.bool b2) (.slice a2 k2 d2)) (h0 : U.heap.size ≤ g) (p q z s : Value) : RE U (fill4 W g p q z s) KA KI KR KS :=
  ⟨fun o ho => (E.a o ho).off4 hg (grow4 _ _ _ _ _ _), fun o ho => (E.i o ho).off4 hg (grow4 _ _ _ _ _ _), fun o ho => (E.r o ho).off4 hg (grow4 _ _ _ _ _ _), fun o ho => (E.s o ho).off4 hg (grow4 _ _ _ _ _ _), below_fill4 E.bl h0 _ _ _ _⟩
/-- The same, for a box that lay there already: what is old has turned in that box alone. -/
theorem RE.refill {g k1 d1 k2 d2 : Nat} {a1 a2 : Option Addr} {b1 b2 : Bool} (E : RE U W KA KI KR KS) (hg : Box4 W g (.bool b1) (.slice a1 k1 d1) (.bool b2) (.slice a2 k2 d2)) (p q z s : Value) : RE (fill4 W g p q z s) (fill4 W g p q z s) KA KI KR KS :=
  ⟨fun o ho => (E.a o ho).off4 hg (grow4 _ _ _ _ _ _), fun o ho => (E.i o ho).off4 hg (grow4 _ _ _ _ _ _), fun o ho => (E.r o ho).off4 hg (grow4 _ _ _ _ _ _), fun o ho => (E.s o ho).off4 hg (grow4 _ _ _ _ _ _), Below.refl _ _⟩

/-- A number has been told; a quotient has been told. -/
def SaysN (U : World) (KA KI : List (Value × Nat × Int)) (KR KS : List (Value × Nat × Rat)) (n : Nat) (x : Int) (e : Ending) (w' : World) : Prop :=
  ∃ neg ao k cap, e = .returned (.agg #[.bool neg, .slice ao k cap]) ∧ RE U w' ((.agg #[.bool neg, .slice ao k cap], n, x) :: KA) ((.agg #[.bool neg, .slice ao k cap], n, x) :: KI) KR KS
def SaysQ (U : World) (KA KI : List (Value × Nat × Int)) (KR KS : List (Value × Nat × Rat)) (n : Nat) (r : Rat) (e : Ending) (w' : World) : Prop :=
  ∃ n1 a1 k1 c1 n2 a2 k2 c2, e = .returned (.agg #[.bool n1, .slice a1 k1 c1, .bool n2, .slice a2 k2 c2]) ∧ RE U w' KA KI ((.agg #[.bool n1, .slice a1 k1 c1, .bool n2, .slice a2 k2 c2], n, r) :: KR) ((.agg #[.bool n1, .slice a1 k1 c1, .bool n2, .slice a2 k2 c2], n, r) :: KS)
theorem saysN_of {lo : Nat} {e : Ending} (E : RE U W KA KI KR KS) (h : Told lo n x W e W') : SaysN U KA KI KR KS n x e W' := by
  obtain ⟨neg, ao, k, cap, rfl, hI, hb⟩ := h
  exact ⟨neg, ao, k, cap, rfl, (E.step hb).knowI hI⟩
theorem saysQ_of {lo : Nat} {e : Ending} (E : RE U W KA KI KR KS) (h : RSay lo n r W e W') : SaysQ U KA KI KR KS n r e W' := by
  obtain ⟨n1, a1, k1, c1, n2, a2, k2, c2, rfl, hI, hb⟩ := h
  exact ⟨n1, a1, k1, c1, n2, a2, k2, c2, rfl, (E.step hb).knowS hI⟩
theorem re_of (E : RE U W KA KI KR KS) (x : Int) (h1 : -9223372036854775808 ≤ x) (h2 : x ≤ 9223372036854775807) : Calls Try.prog 64 #[.int .i64 x] W (SaysN U KA KI KR KS 2 x) :=
  (of_num W x h1 h2).mono fun _ _ h => saysN_of E h
theorem re_rof (E : RE U W KA KI KR KS) (x : Int) (h1 : -9223372036854775808 ≤ x) (h2 : x ≤ 9223372036854775807) : Calls Try.prog 55 #[.int .i64 x] W (SaysN U KA KI KR KS 2 x) :=
  (rof_num W x h1 h2).mono fun _ _ h => saysN_of E h
theorem re_add (E : RE U W KA KI KR KS) (hu : (u, n, x) ∈ KA) (hv : (v, m, y) ∈ KA) (hn : n ≤ 1000000) (hm : m ≤ 1000000) : Calls Try.prog 31 #[u, v] W (SaysN U KA KI KR KS (n + m + 1) (x + y)) :=
  (add_num W u v n m x y (E.a _ hu) (E.a _ hv) hn hm).mono fun _ _ h => saysN_of E h
theorem re_sub (E : RE U W KA KI KR KS) (hu : (u, n, x) ∈ KA) (hv : (v, m, y) ∈ KA) (hn : n ≤ 1000000) (hm : m ≤ 1000000) : Calls Try.prog 32 #[u, v] W (SaysN U KA KI KR KS (n + m + 1) (x - y)) :=
  (sub_num W u v n m x y (E.a _ hu) (E.a _ hv) hn hm).mono fun _ _ h => saysN_of E h
theorem re_mul (E : RE U W KA KI KR KS) (hu : (u, n, x) ∈ KA) (hv : (v, m, y) ∈ KA) (hn : n ≤ 500000) (hm : m ≤ 500000) : Calls Try.prog 30 #[u, v] W (SaysN U KA KI KR KS (n + m) (x * y)) :=
  (mul_num W u v n m x y (E.a _ hu) (E.a _ hv) hn hm).mono fun _ _ h => saysN_of E h
theorem re_neg (E : RE U W KA KI KR KS) (hu : (u, n, x) ∈ KA) (hn : n ≤ 500000) : Calls Try.prog 94 #[u] W (SaysN U KA KI KR KS n (-x)) :=
  (neg_num W u n x (E.a _ hu) (by omega)).mono fun _ _ h => saysN_of E h
theorem re_cmp (E : RE U W KA KI KR KS) (hu : (u, n, x) ∈ KA) (hv : (v, m, y) ∈ KA) : Calls Try.prog 33 #[u, v] W fun e w' => e = .returned (.int .i64 (cmpI x y)) ∧ RE U w' KA KI KR KS := by
  refine (cmp_num W u v n m x y (E.a _ hu) (E.a _ hv)).mono ?_
  rintro e w' ⟨rfl, hb⟩
  exact ⟨rfl, E.step hb⟩
theorem re_text (E : RE U W KA KI KR KS) (hu : (u, n, x) ∈ KA) (hn : n ≤ 1000000) : Calls Try.prog 28 #[u] W fun e w' => e = .returned (.string (str (textOf x))) ∧ RE U w' KA KI KR KS := by
  refine (text_num W u n x (E.a _ hu) hn).mono ?_
  rintro e w' ⟨rfl, hb⟩
  exact ⟨rfl, E.step hb⟩
theorem re_num (E : RE U W KA KI KR KS) (x : Int) : Calls Try.prog 23 #[.int .i64 x] W fun e w' => e = .returned (.int .i64 x) ∧ RE U w' KA KI KR KS := by
  refine (num_any W x).mono ?_
  rintro e w' ⟨rfl, rfl⟩
  exact ⟨rfl, E⟩
theorem re_same (E : RE U W KA KI KR KS) (hu : (u, n, x) ∈ KI) (hv : (v, m, y) ∈ KI) : Calls Try.prog 22 #[u, v] W fun e w' => e = .returned (.bool (decide (x = y))) ∧ RE U w' KA KI KR KS := by
  refine (same_num W u v n m 0 0 x y (E.i _ hu) (E.i _ hv)).mono ?_
  rintro e w' ⟨rfl, hb⟩
  exact ⟨rfl, E.step hb⟩
theorem re_ratOf (E : RE U W KA KI KR KS) (x : Int) (h1 : -9223372036854775808 ≤ x) (h2 : x ≤ 9223372036854775807) : Calls Try.prog 41 #[.int .i64 x] W (SaysQ U KA KI KR KS 2 (x : Rat)) :=
  (ratOf_say W x h1 h2).mono fun _ _ h => saysQ_of E h
theorem re_least (E : RE U W KA KI KR KS) (hu : (u, n, x) ∈ KA) (hv : (v, m, y) ∈ KA) (hy : y ≠ 0) (hn : n ≤ 100000) (hm : m ≤ 100000) : Calls Try.prog 84 #[u, v] W (SaysQ U KA KI KR KS (n + m) (Rat.divInt x y)) :=
  (least_say W u v n m x y (E.a _ hu) (E.a _ hv) hy hn hm).mono fun _ _ h => saysQ_of E h
/-- What is counted is known by its two numbers. -/
theorem re_counted (E : RE U W KA KI KR KS) (hu : (u, n, r) ∈ KR) (hn : n ≤ 400000) : Calls Try.prog 89 #[u] W fun e w' => ∃ m1 b1 j1 d1 m2 b2 j2 d2, e = .returned (.agg #[.bool m1, .slice b1 j1 d1, .bool m2, .slice b2 j2 d2]) ∧ RE U w' ((.agg #[.bool m1, .slice b1 j1 d1], n + 2, r.num) :: (.agg #[.bool m2, .slice b2 j2 d2], n + 2, (r.den : Int)) :: KA) KI KR KS := by
  refine (ratCounted_any W u n r (E.r _ hu) hn).mono ?_
  rintro e w' ⟨m1, b1, j1, d1, m2, b2, j2, d2, rfl, h1, h2, hb⟩
  exact ⟨m1, b1, j1, d1, m2, b2, j2, d2, rfl, ((E.step hb).know h2).know h1⟩
theorem keep44 {a b : Nat} {p q r s p' q' r' s' : Value} (h1 : Box4 U a p q r s) (h2 : Box4 U b p' q' r' s') (hb : Below U.heap.size U W) :
    W.cell? ⟨a, 0, none⟩ = some p ∧ W.cell? ⟨a, 1, none⟩ = some q ∧ W.cell? ⟨a, 2, none⟩ = some r ∧ W.cell? ⟨a, 3, none⟩ = some s ∧ W.cell? ⟨b, 0, none⟩ = some p' ∧ W.cell? ⟨b, 1, none⟩ = some q' ∧ W.cell? ⟨b, 2, none⟩ = some r' ∧ W.cell? ⟨b, 3, none⟩ = some s' := by
  obtain ⟨x0, x1, x2, x3⟩ := (h1.keep hb).c
  obtain ⟨y0, y1, y2, y3⟩ := (h2.keep hb).c
  exact ⟨x0, x1, x2, x3, y0, y1, y2, y3⟩

end Go.Proofs.Ytiicjfacekldnaa
