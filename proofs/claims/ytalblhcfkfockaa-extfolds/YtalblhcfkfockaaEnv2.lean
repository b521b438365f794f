/-
  What a law knows from call to call: quotients, what divides both; boxes that are laid and filled.
-/
import Derived.Test.YtalblhcfkfockaaEnv
import Derived.Test.YtalblhcfkfockaaW26
namespace Go.Proofs.Ytalblhcfkfockaa
open Go.RowKit Lm
set_option linter.unusedSimpArgs false
set_option linter.unusedVariables false
set_option maxRecDepth 100000

variable {W0 W W' : World} {B B' : List (Nat × Value × Value)} {KA KI : List (Value × Nat × Int)} {u v : Value} {n m : Nat} {x y : Int}

theorem env_cmp2 (E : Env W0 W B KA KI) (hu : (u, n, x) ∈ KA) (hv : (v, m, y) ∈ KA) : Calls Try.prog 45 #[u, v] W fun e w' => e = .returned (.int .i64 (cmpI x y)) ∧ Env W0 w' B KA KI := by
  refine (cmp_num W u v n m x y (E.a _ hu) (E.a _ hv)).mono ?_
  rintro e w' ⟨rfl, hb⟩
  exact ⟨rfl, E.step hb⟩
theorem cmpI_lo (x y : Int) : -1 ≤ cmpI x y := by unfold cmpI; split; omega; split <;> omega
theorem cmpI_hi (x y : Int) : cmpI x y ≤ 1 := by unfold cmpI; split; omega; split <;> omega
theorem env_gcd (E : Env W0 W B KA KI) (hu : (u, n, x) ∈ KA) (hv : (v, m, y) ∈ KA) (hn : n ≤ 400000) (hm : m ≤ 400000) : Calls Try.prog 83 #[u, v] W (Says W0 B KA KI (n + m + 2) ((Nat.gcd x.natAbs y.natAbs : Nat) : Int)) :=
  (gcd_num W u v n m x y (E.a _ hu) (E.a _ hv) hn hm).mono fun _ _ h => says_of E h
theorem env_ofCmp (E : Env W0 W B KA KI) (x y : Int) : Calls Try.prog 77 #[.int .i64 (cmpI x y)] W (Says W0 B KA KI 2 (cmpI x y)) :=
  env_of E _ (by have := cmpI_lo x y; omega) (by have := cmpI_hi x y; omega)

/-- A quotient and its rest have been told. -/
def Says2 (W0 : World) (B : List (Nat × Value × Value)) (KA KI : List (Value × Nat × Int)) (n m : Nat) (x y : Int) (e : Ending) (w' : World) : Prop :=
  ∃ nq aq kq cq nr ar kr cr, e = .returned (.tuple #[.agg #[.bool nq, .slice aq kq cq], .agg #[.bool nr, .slice ar kr cr], .int .i64 0]) ∧
    Env W0 w' B ((.agg #[.bool nq, .slice aq kq cq], n, x.tdiv y) :: (.agg #[.bool nr, .slice ar kr cr], n + m, x.tmod y) :: KA) ((.agg #[.bool nq, .slice aq kq cq], n, x.tdiv y) :: (.agg #[.bool nr, .slice ar kr cr], n + m, x.tmod y) :: KI)
theorem env_div (E : Env W0 W B KA KI) (hu : (u, n, x) ∈ KA) (hv : (v, m, y) ∈ KA) (hy : y ≠ 0) (hn : n ≤ 400000) (hm : m ≤ 400000) : Calls Try.prog 103 #[u, v] W (Says2 W0 B KA KI n m x y) := by
  refine (div_any W u v n m x y (E.a _ hu) (E.a _ hv) hy hn hm).mono ?_
  rintro e w' ⟨nq, aq, kq, cq, nr, ar, kr, cr, rfl, hq, hr, hb⟩
  exact ⟨nq, aq, kq, cq, nr, ar, kr, cr, rfl, (E.next hb hr).next (Below.refl _ _) hq⟩
theorem env_divz (E : Env W0 W B KA KI) (hu : (u, n, x) ∈ KA) (hv : (v, m, y) ∈ KA) (hy : y = 0) : Calls Try.prog 103 #[u, v] W fun e w' => e = .returned (.tuple #[.agg #[.bool false, .slice none 0 0], .agg #[.bool false, .slice none 0 0], .int .i64 1]) ∧ Env W0 w' B KA KI := by
  refine (div_zero W u v n m x y (E.a _ hu) (E.a _ hv) hy).mono ?_
  rintro e w' ⟨rfl, hb⟩
  exact ⟨rfl, E.step hb⟩
theorem is_zero (W : World) : Is W 0 (.agg #[.bool false, .slice none 0 0]) 0 0 :=
  ⟨false, none, 0, [], rfl, ⟨ok_nil, by simp, by unfold maxLen; omega, .inl ⟨rfl, fun _ => rfl⟩⟩, (by intro ad e; simp at e), by simp, rfl, by simp [sgn, val]⟩
theorem Env.zero (E : Env W0 W B KA KI) : Env W0 W B ((.agg #[.bool false, .slice none 0 0], 0, 0) :: KA) ((.agg #[.bool false, .slice none 0 0], 0, 0) :: KI) :=
  E.next (Below.refl _ _) (is_zero W)

/-- A box that is told by its cells: no limbs lie in it. -/
theorem SlAt.offBox {ao : Option Addr} {cap g k c i : Nat} {l : List Nat} {a : Option Addr} {b : Bool} (h : SlAt W ao cap l) (hg : Box W g (.bool b) (.slice a k c)) (z : Value) : SlAt (W.setCell ⟨g, i, none⟩ z) ao cap l := by
  obtain ⟨h1, h2, h3, h4⟩ := h
  refine ⟨h1, h2, h3, ?_⟩
  rcases h4 with h4 | ⟨b', off, e, hlt, hc⟩
  · exact .inl h4
  · by_cases h0 : l.length = 0
    · exact .inl ⟨h0, fun h => by rw [e] at h; simp at h⟩
    · have hne : b' ≠ g := by
        intro h
        subst h
        have h5 := hc 0 (by omega)
        rw [cell_of_row W b' (off + 0) #[.bool b, .slice a k c] 27 (0, 0) hg] at h5
        rcases (show off = 0 ∨ off = 1 ∨ 2 ≤ off by omega) with rfl | rfl | h6
        · simp at h5
        · simp at h5
        · rw [Array.getElem?_eq_none (by simp; omega)] at h5
          simp at h5
      refine .inr ⟨b', off, e, by simpa [World.setCell] using hlt, fun i' hi => ?_⟩
      rw [World.cell?_of_block (w := W) (a := ⟨b', off + i', none⟩) (heap_setCell_other W ⟨g, i, none⟩ b' z hne)]
      exact hc i' hi
theorem Env.store {g k c i : Nat} {a : Option Addr} {b : Bool} (E : Env W0 W B KA KI) (hg : Box W g (.bool b) (.slice a k c)) (hd : ∀ p ∈ B, p.1 ≠ g) (h0 : W0.heap.size ≤ g) (z : Value) : Env W0 (W.setCell ⟨g, i, none⟩ z) B KA KI := by
  refine ⟨fun p hp => (E.bx p hp).other (hd p hp) z, fun p hp => ?_, fun p hp => ?_, E.bl.setCell h0 z⟩
  · obtain ⟨neg, sv, l, hv, ⟨ao, cap, e, hs⟩, hr⟩ := E.a p hp
    exact ⟨neg, sv, l, hv, ⟨ao, cap, e, hs.offBox hg z⟩, hr⟩
  · obtain ⟨neg, ao, cap, l, hv, hs, hr⟩ := E.i p hp
    exact ⟨neg, ao, cap, l, hv, hs.offBox hg z, hr⟩
theorem Env.with {g : Nat} (E : Env W0 W B KA KI) (hg : Box W g u v) : Env W0 W ((g, u, v) :: B) KA KI := by
  refine ⟨fun p hp => ?_, E.a, E.i, E.bl⟩
  rcases List.mem_cons.1 hp with rfl | h
  · exact hg
  · exact E.bx p h
theorem Env.b1 {g : Nat} {p q : Value} (E : Env W0 W ((g, p, q) :: B) KA KI) : Box W g p q := E.bx _ (List.Mem.head _)
theorem Env.b2 {g g' : Nat} {p q p' q' : Value} (E : Env W0 W ((g', p', q') :: (g, p, q) :: B) KA KI) : Box W g p q := E.bx _ (List.Mem.tail _ (List.Mem.head _))
theorem Env.bm {g : Nat} {p q : Value} (E : Env W0 W B KA KI) (h : (g, p, q) ∈ B) : Box W g p q := E.bx _ h
theorem is_len0 {lo k c : Nat} {b : Bool} {a : Option Addr} (h : Is W lo (.agg #[.bool b, .slice a k c]) n 0) : k = 0 := by
  obtain ⟨neg, ao, cap, l, e, hs, _, _, hm, hz⟩ := h
  have h1 : val l = 0 := by have := sgn_abs neg (val l); rw [← hz] at this; simpa using this.symm
  have h2 := val_eq_zero (may_canon hm) h1
  subst h2
  simp at e
  exact e.2.2.1
theorem Env.fresh (E : Env W0 W B KA KI) : ∀ p ∈ B, p.1 ≠ W.heap.size := fun p hp => Nat.ne_of_lt (E.bx p hp).lt
theorem Env.lts (E : Env W0 W B KA KI) : ∀ p ∈ B, p.1 < W.heap.size := fun p hp => (E.bx p hp).lt
theorem Env.sub (E : Env W0 W B KA KI) (h : ∀ p ∈ B', p ∈ B) : Env W0 W B' KA KI := ⟨fun p hp => E.bx p (h p hp), E.a, E.i, E.bl⟩
/-- Two cells of a box are filled. -/
theorem Env.fill {g k c : Nat} {a : Option Addr} {b b' : Bool} {s' : Value} {a' : Option Addr} {k' c' : Nat} (E : Env W0 W B KA KI) (hg : Box W g (.bool b) (.slice a k c)) (hd : ∀ p ∈ B, p.1 ≠ g) (h0 : W0.heap.size ≤ g) : Env W0 ((W.setCell ⟨g, 0, none⟩ (.bool b')).setCell ⟨g, 1, none⟩ (.slice a' k' c')) ((g, .bool b', .slice a' k' c') :: B) KA KI :=
  ((E.store hg hd h0 _).store (hg.set0 _) hd h0 _).with ((hg.set0 _).set1 _)
theorem cells1 {b1 : Nat} {x1 y1 : Value} (E : Env W0 W ((b1, x1, y1) :: B) KA KI) : W.cell? ⟨b1, 0, none⟩ = some x1 ∧ W.cell? ⟨b1, 1, none⟩ = some y1 :=
  ⟨(E.bx _ (List.Mem.head _)).c0, (E.bx _ (List.Mem.head _)).c1⟩
theorem Env.tail {p : Nat × Value × Value} (E : Env W0 W (p :: B) KA KI) : Env W0 W B KA KI := E.sub (fun q hq => List.mem_cons_of_mem _ hq)
theorem cells2 {b1 b2 : Nat} {x1 y1 x2 y2 : Value} (E : Env W0 W ((b1, x1, y1) :: (b2, x2, y2) :: B) KA KI) : W.cell? ⟨b1, 0, none⟩ = some x1 ∧ W.cell? ⟨b1, 1, none⟩ = some y1 ∧ W.cell? ⟨b2, 0, none⟩ = some x2 ∧ W.cell? ⟨b2, 1, none⟩ = some y2 :=
  ⟨(cells1 E).1, (cells1 E).2, cells1 E.tail⟩
theorem cells3 {b1 b2 b3 : Nat} {x1 y1 x2 y2 x3 y3 : Value} (E : Env W0 W ((b1, x1, y1) :: (b2, x2, y2) :: (b3, x3, y3) :: B) KA KI) : W.cell? ⟨b1, 0, none⟩ = some x1 ∧ W.cell? ⟨b1, 1, none⟩ = some y1 ∧ W.cell? ⟨b2, 0, none⟩ = some x2 ∧ W.cell? ⟨b2, 1, none⟩ = some y2 ∧ W.cell? ⟨b3, 0, none⟩ = some x3 ∧ W.cell? ⟨b3, 1, none⟩ = some y3 :=
  ⟨(cells1 E).1, (cells1 E).2, cells2 E.tail⟩
theorem cells4 {b1 b2 b3 b4 : Nat} {x1 y1 x2 y2 x3 y3 x4 y4 : Value} (E : Env W0 W ((b1, x1, y1) :: (b2, x2, y2) :: (b3, x3, y3) :: (b4, x4, y4) :: B) KA KI) : W.cell? ⟨b1, 0, none⟩ = some x1 ∧ W.cell? ⟨b1, 1, none⟩ = some y1 ∧ W.cell? ⟨b2, 0, none⟩ = some x2 ∧ W.cell? ⟨b2, 1, none⟩ = some y2 ∧ W.cell? ⟨b3, 0, none⟩ = some x3 ∧ W.cell? ⟨b3, 1, none⟩ = some y3 ∧ W.cell? ⟨b4, 0, none⟩ = some x4 ∧ W.cell? ⟨b4, 1, none⟩ = some y4 :=
  ⟨(cells1 E).1, (cells1 E).2, cells3 E.tail⟩
theorem cells5 {b1 b2 b3 b4 b5 : Nat} {x1 y1 x2 y2 x3 y3 x4 y4 x5 y5 : Value} (E : Env W0 W ((b1, x1, y1) :: (b2, x2, y2) :: (b3, x3, y3) :: (b4, x4, y4) :: (b5, x5, y5) :: B) KA KI) : W.cell? ⟨b1, 0, none⟩ = some x1 ∧ W.cell? ⟨b1, 1, none⟩ = some y1 ∧ W.cell? ⟨b2, 0, none⟩ = some x2 ∧ W.cell? ⟨b2, 1, none⟩ = some y2 ∧ W.cell? ⟨b3, 0, none⟩ = some x3 ∧ W.cell? ⟨b3, 1, none⟩ = some y3 ∧ W.cell? ⟨b4, 0, none⟩ = some x4 ∧ W.cell? ⟨b4, 1, none⟩ = some y4 ∧ W.cell? ⟨b5, 0, none⟩ = some x5 ∧ W.cell? ⟨b5, 1, none⟩ = some y5 :=
  ⟨(cells1 E).1, (cells1 E).2, cells4 E.tail⟩

theorem Env.rebase (E : Env W0 W B KA KI) : Env W W B KA KI := ⟨E.bx, E.a, E.i, Below.refl _ _⟩
theorem Env.onto {w U : World} (hU : Below w.heap.size w U) (E : Env U W B KA KI) : Env w W B KA KI := ⟨E.bx, E.a, E.i, below_call hU E.bl hU.size⟩
theorem Env.less {KA' KI' : List (Value × Nat × Int)} (E : Env W0 W B KA KI) (hB : ∀ p ∈ B', p ∈ B) (hA : ∀ p ∈ KA', p ∈ KA) (hI : ∀ p ∈ KI', p ∈ KI) : Env W0 W B' KA' KI' := ⟨fun p hp => E.bx p (hB p hp), fun p hp => E.a p (hA p hp), fun p hp => E.i p (hI p hp), E.bl⟩
theorem Env.storeU {g k c i : Nat} {a : Option Addr} {b : Bool} {u' : Value} (E : Env W0 W B KA KI) (hl : ∀ p ∈ B, p.1 < W0.heap.size) (h0 : W0.heap.size ≤ g) (hg : Box W g (.bool b) (.slice a k c)) : Env W0 (W.setCell ⟨g, i, none⟩ u') B KA KI :=
  E.store hg (fun p hp => by have := hl p hp; omega) h0 u'

theorem keep2 {b1 b2 : Nat} {x1 y1 x2 y2 : Value} (h1 : Box W b1 x1 y1) (h2 : Box W b2 x2 y2) : W.cell? ⟨b1, 0, none⟩ = some x1 ∧ W.cell? ⟨b1, 1, none⟩ = some y1 ∧ W.cell? ⟨b2, 0, none⟩ = some x2 ∧ W.cell? ⟨b2, 1, none⟩ = some y2 := ⟨h1.c0, h1.c1, h2.c0, h2.c1⟩
theorem keep3 {b1 b2 b3 : Nat} {x1 y1 x2 y2 x3 y3 : Value} (h1 : Box W b1 x1 y1) (h2 : Box W b2 x2 y2) (h3 : Box W b3 x3 y3) : W.cell? ⟨b1, 0, none⟩ = some x1 ∧ W.cell? ⟨b1, 1, none⟩ = some y1 ∧ W.cell? ⟨b2, 0, none⟩ = some x2 ∧ W.cell? ⟨b2, 1, none⟩ = some y2 ∧ W.cell? ⟨b3, 0, none⟩ = some x3 ∧ W.cell? ⟨b3, 1, none⟩ = some y3 := ⟨h1.c0, h1.c1, keep2 h2 h3⟩
theorem keep4 {b1 b2 b3 b4 : Nat} {x1 y1 x2 y2 x3 y3 x4 y4 : Value} (h1 : Box W b1 x1 y1) (h2 : Box W b2 x2 y2) (h3 : Box W b3 x3 y3) (h4 : Box W b4 x4 y4) : W.cell? ⟨b1, 0, none⟩ = some x1 ∧ W.cell? ⟨b1, 1, none⟩ = some y1 ∧ W.cell? ⟨b2, 0, none⟩ = some x2 ∧ W.cell? ⟨b2, 1, none⟩ = some y2 ∧ W.cell? ⟨b3, 0, none⟩ = some x3 ∧ W.cell? ⟨b3, 1, none⟩ = some y3 ∧ W.cell? ⟨b4, 0, none⟩ = some x4 ∧ W.cell? ⟨b4, 1, none⟩ = some y4 := ⟨h1.c0, h1.c1, keep3 h2 h3 h4⟩

end Go.Proofs.Ytalblhcfkfockaa
