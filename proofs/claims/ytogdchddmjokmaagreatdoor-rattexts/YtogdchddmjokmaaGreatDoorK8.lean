/-
  Walks: the law RatRead.
-/
import Derived.Test.YtogdchddmjokmaaGreatDoorK7
import Derived.Test.YtogdchddmjokmaaGreatDoorG5a
import Derived.Test.YtogdchddmjokmaaGreatDoorG3a
namespace Go.Proofs.YtogdchddmjokmaaGreatDoor
open Go.RowKit Lm
set_option linter.unusedSimpArgs false
set_option linter.unusedVariables false
set_option maxRecDepth 100000

theorem textR_size {W : World} {v : Value} {r : Rat} (h : RArg W v 6 r) : (textR r).size ≤ 10001 := by
  obtain ⟨h1, h2⟩ := rarg_bound h (by omega)
  have t1 := text_len (z := r.num) (k := 6) h1
  have t2 := text_len (z := (r.den : Int)) (k := 6) (by simpa using h2)
  unfold textR
  split
  · rw [str_size]; omega
  · rw [ByteArray.size_append, ByteArray.size_append, str_size, str_size]
    have : (⟨#[47]⟩ : ByteArray).size = 1 := rfl
    omega

section
variable {U W W' : World} {KA KI : List (Value × Nat × Int)} {KR KS : List (Value × Nat × Rat)} {u v : Value} {n m : Nat} {x y : Int} {r t : Rat}
theorem re_freshK {w : World} {ga : Nat} {p q o s : Value} (E : RE U W KA KI KR KS) (hW : Below w.heap.size w U) (bA : Box4 U ga p q o s) :
    RE (W.alloc (.cells #[.bool false, .slice none 0 0, .bool false, .slice none 0 0] 26)) (W.alloc (.cells #[.bool false, .slice none 0 0, .bool false, .slice none 0 0] 26)) KA KI KR KS ∧ Below w.heap.size w (W.alloc (.cells #[.bool false, .slice none 0 0, .bool false, .slice none 0 0] 26)) ∧ Box4 (W.alloc (.cells #[.bool false, .slice none 0 0, .bool false, .slice none 0 0] 26)) ga p q o s ∧ Box4 (W.alloc (.cells #[.bool false, .slice none 0 0, .bool false, .slice none 0 0] 26)) W.heap.size (.bool false) (.slice none 0 0) (.bool false) (.slice none 0 0) ∧ ga < W.heap.size :=
  ⟨(E.alloc _).rebase, below_call hW (E.alloc _).bl hW.size, bA.keep (E.alloc _).bl, Box4.new _ _ _ _ _ _ rfl, (bA.keep E.bl).lt⟩
/-- Behind the quotient's making: it lies in a box, and x beside it. -/
def FrK (w wc : World) (gX N n : Nat) (r : Rat) (m1 : Bool) (p1 : Option Addr) (j1 d1 : Nat) (m2 : Bool) (p2 : Option Addr) (j2 d2 : Nat) (p9 e10 : Value) : Prop :=
  ∃ g9 n5 a5 k5 c5 n6 a6 k6 c6, p9 = .pointer (some ⟨g9, 0, none⟩) ∧ e10 = .int .i64 0 ∧ Box4 wc g9 (.bool n5) (.slice a5 k5 c5) (.bool n6) (.slice a6 k6 c6) ∧ RIs wc 0 (Value.agg #[Value.bool n5, Value.slice a5 k5 c5, Value.bool n6, Value.slice a6 k6 c6]) n r ∧ Box4 wc gX (.bool m1) (.slice p1 j1 d1) (.bool m2) (.slice p2 j2 d2) ∧ RIs wc 0 (Value.agg #[Value.bool m1, Value.slice p1 j1 d1, Value.bool m2, Value.slice p2 j2 d2]) N r ∧ Below w.heap.size w wc
theorem frK_new {w : World} {gX N : Nat} {m1 m2 n5 n6 : Bool} {p1 p2 a5 a6 : Option Addr} {j1 d1 j2 d2 k5 c5 k6 c6 : Nat} (E : RE U W KA KI ((Value.agg #[Value.bool n5, Value.slice a5 k5 c5, Value.bool n6, Value.slice a6 k6 c6], n, r) :: KR) ((Value.agg #[Value.bool n5, Value.slice a5 k5 c5, Value.bool n6, Value.slice a6 k6 c6], n, r) :: KS)) (hX : (Value.agg #[Value.bool m1, Value.slice p1 j1 d1, Value.bool m2, Value.slice p2 j2 d2], N, r) ∈ KS) (hW : Below w.heap.size w U) (bX : Box4 U gX (.bool m1) (.slice p1 j1 d1) (.bool m2) (.slice p2 j2 d2)) :
    FrK w (W.alloc (.cells #[.bool n5, .slice a5 k5 c5, .bool n6, .slice a6 k6 c6] 26)) gX N n r m1 p1 j1 d1 m2 p2 j2 d2 (.pointer (some ⟨W.heap.size, 0, none⟩)) (.int .i64 0) :=
  ⟨_, n5, a5, k5, c5, n6, a6, k6, c6, rfl, rfl, Box4.new _ _ _ _ _ _ rfl, (E.alloc _).s _ (List.Mem.head _), bX.keep (E.alloc _).bl, (E.alloc _).s _ (List.Mem.tail _ hX), below_call hW (E.alloc _).bl hW.size⟩
theorem frK_fill {w : World} {gX g9 N : Nat} {m1 m2 n5 n6 : Bool} {p1 p2 a5 a6 : Option Addr} {j1 d1 j2 d2 k5 c5 k6 c6 : Nat} (E : RE U W KA KI ((Value.agg #[Value.bool n5, Value.slice a5 k5 c5, Value.bool n6, Value.slice a6 k6 c6], n, r) :: KR) ((Value.agg #[Value.bool n5, Value.slice a5 k5 c5, Value.bool n6, Value.slice a6 k6 c6], n, r) :: KS)) (hX : (Value.agg #[Value.bool m1, Value.slice p1 j1 d1, Value.bool m2, Value.slice p2 j2 d2], N, r) ∈ KS) (hW : Below w.heap.size w U) (bX : Box4 U gX (.bool m1) (.slice p1 j1 d1) (.bool m2) (.slice p2 j2 d2)) (bz : Box4 U g9 (.bool false) (.slice none 0 0) (.bool false) (.slice none 0 0)) (h1 : gX < g9) (h2 : w.heap.size ≤ g9) :
    FrK w (fill4 W g9 (.bool n5) (.slice a5 k5 c5) (.bool n6) (.slice a6 k6 c6)) gX N n r m1 p1 j1 d1 m2 p2 j2 d2 (.pointer (some ⟨g9, 0, none⟩)) (.int .i64 0) :=
  ⟨_, n5, a5, k5, c5, n6, a6, k6, c6, rfl, rfl, (bz.keep E.bl).filled _ _ _ _, (E.refill (bz.keep E.bl) _ _ _ _).s _ (List.Mem.head _), (bX.keep E.bl).beside (by omega) _ _ _ _, (E.refill (bz.keep E.bl) _ _ _ _).s _ (List.Mem.tail _ hX), below_fill4 (below_call hW E.bl hW.size) h2 _ _ _ _⟩
end
theorem ris_parts {W : World} {m1 m2 : Bool} {p1 p2 : Option Addr} {j1 d1 j2 d2 n : Nat} {r : Rat} (h : RIs W 0 (Value.agg #[Value.bool m1, Value.slice p1 j1 d1, Value.bool m2, Value.slice p2 j2 d2]) n r) : Is W 0 (.agg #[.bool m1, .slice p1 j1 d1]) n r.num ∧ Is W 0 (.agg #[.bool m2, .slice p2 j2 d2]) n (r.den : Int) := by
  obtain ⟨_, _, _, _, _, _, _, _, hv, h1, h2⟩ := h
  simp only [Value.agg.injEq, Array.mk.injEq, List.cons.injEq, Value.bool.injEq, Value.slice.injEq, and_true] at hv
  obtain ⟨rfl, ⟨rfl, rfl, rfl⟩, rfl, rfl, rfl, rfl⟩ := hv
  exact ⟨h1, h2⟩

theorem ris_form {W : World} {v : Value} {n : Nat} {r : Rat} (h : RIs W 0 v n r) : ∃ n1 s1 l1 n2 s2 l2, v = .agg #[.bool n1, s1, .bool n2, s2] ∧ Sl W s1 l1 ∧ Sl W s2 l2 ∧ l1.length ≤ n ∧ l2.length ≤ n ∧ formB n1 l1 n2 l2 := by
  obtain ⟨n1, a1, k1, c1, n2, a2, k2, c2, rfl, ⟨m1, b1, d1, l1, e1, s1, -, g1, y1, z1⟩, ⟨m2, b2, d2, l2, e2, s2, -, g2, y2, z2⟩⟩ := h
  simp only [Value.agg.injEq, Array.mk.injEq, List.cons.injEq, Value.bool.injEq, Value.slice.injEq, and_true] at e1 e2
  obtain ⟨rfl, rfl, rfl, rfl⟩ := e1
  obtain ⟨rfl, rfl, rfl, rfl⟩ := e2
  refine ⟨n1, _, l1, n2, _, l2, rfl, ⟨_, _, rfl, s1⟩, ⟨_, _, rfl, s2⟩, g1, g2, ?_⟩
  have hd := r.den_pos
  refine ⟨y1, y2, by omega, ?_⟩
  have := r.reduced
  unfold Nat.Coprime at this
  rw [z1, sgn_abs] at this
  have h3 : r.den = val l2 := by
    have := sgn_abs n2 (val l2)
    rw [← z2] at this
    simpa using this
  rwa [h3] at this
theorem re_mayE {U W : World} {KA KI : List (Value × Nat × Int)} {KR KS : List (Value × Nat × Rat)} {v : Value} {n : Nat} {r : Rat} (E : RE U W KA KI KR KS) (hI : RIs W 0 v n r) (hn : n ≤ 400000) : Calls Tryz.prog 42 #[v] W fun e w' => e = .returned (.bool true) ∧ RE U w' KA KI KR KS := by
  obtain ⟨n1, s1, l1, n2, s2, l2, rfl, h1, h2, g1, g2, hf⟩ := ris_form hI
  refine (ratMay_any W n1 n2 s1 s2 l1 l2 h1 h2 (by omega) (by omega)).mono ?_
  rintro e w' ⟨rfl, hb⟩
  exact ⟨by rw [(form_may hf).1], E.step hb⟩

end Go.Proofs.YtogdchddmjokmaaGreatDoor
