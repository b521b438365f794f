/-
  Walks: the law RatRead.
-/
import Derived.Test.YtajjhlncfagncaaGreatDoorK7
import Derived.Test.YtajjhlncfagncaaGreatDoorG5a
import Derived.Test.YtajjhlncfagncaaGreatDoorG3a
namespace Go.Proofs.YtajjhlncfagncaaGreatDoor
open Go.RowKit Lm
set_option linter.unusedSimpArgs false
set_option linter.unusedVariables false
set_option maxRecDepth 100000

theorem textR_size {W : World} {v : Value} {r : Rat} (h : RArg W v 6 r) : (textR r).size ≤ 10001 := by
  obtain ⟨h1, h2⟩ := rarg_bound h (by omega)
  have t1 := text_len (z := r.num) (k := 6) h1
  have t2 := text_len (z := (r.den : Int)) (k := 6) (by simpa using h2)
  unfold textR
  split
  · rw [str_size]; omega
  · rw [ByteArray.size_append, ByteArray.size_append, str_size, str_size]
    have : (⟨#[47]⟩ : ByteArray).size = 1 := rfl
    omega

section
variable {U W W' : World} {KA KI : List (Value × Nat × Int)} {KR KS : List (Value × Nat × Rat)} {u v : Value} {n m : Nat} {x y : Int} {r t : Rat}
theorem re_rmulK (E : RE U W KA KI KR KS) (hu : (u, n, x) ∈ KA) (hv : (v, m, y) ∈ KA) (hn : n ≤ 500000) (hm : m ≤ 500000) : Calls Tryz.prog 15 #[u, v] W (SaysN U KA KI KR KS (n + m) (x * y)) :=
  (rmul_num W u v n m x y (E.a _ hu) (E.a _ hv) hn hm).mono fun _ _ h => saysN_of E h
theorem re_freshK {w : World} {ga : Nat} {p q o s : Value} (E : RE U W KA KI KR KS) (hW : Below w.heap.size w U) (bA : Box4 U ga p q o s) :
    RE (W.alloc (.cells #[.bool false, .slice none 0 0, .bool false, .slice none 0 0] 26)) (W.alloc (.cells #[.bool false, .slice none 0 0, .bool false, .slice none 0 0] 26)) KA KI KR KS ∧ Below w.heap.size w (W.alloc (.cells #[.bool false, .slice none 0 0, .bool false, .slice none 0 0] 26)) ∧ Box4 (W.alloc (.cells #[.bool false, .slice none 0 0, .bool false, .slice none 0 0] 26)) ga p q o s ∧ Box4 (W.alloc (.cells #[.bool false, .slice none 0 0, .bool false, .slice none 0 0] 26)) W.heap.size (.bool false) (.slice none 0 0) (.bool false) (.slice none 0 0) ∧ ga < W.heap.size :=
  ⟨(E.alloc _).rebase, below_call hW (E.alloc _).bl hW.size, bA.keep (E.alloc _).bl, Box4.new _ _ _ _ _ _ rfl, (bA.keep E.bl).lt⟩
/-- Behind the quotient's making: it lies in a box, and x beside it. -/
def FrK (w wc : World) (gX N n : Nat) (r : Rat) (m1 : Bool) (p1 : Option Addr) (j1 d1 : Nat) (m2 : Bool) (p2 : Option Addr) (j2 d2 : Nat) (p9 e10 : Value) : Prop :=
  ∃ g9 n5 a5 k5 c5 n6 a6 k6 c6, p9 = .pointer (some ⟨g9, 0, none⟩) ∧ e10 = .int .i64 0 ∧ Box4 wc g9 (.bool n5) (.slice a5 k5 c5) (.bool n6) (.slice a6 k6 c6) ∧ RIs wc 0 (Value.agg #[Value.bool n5, Value.slice a5 k5 c5, Value.bool n6, Value.slice a6 k6 c6]) n r ∧ Box4 wc gX (.bool m1) (.slice p1 j1 d1) (.bool m2) (.slice p2 j2 d2) ∧ RIs wc 0 (Value.agg #[Value.bool m1, Value.slice p1 j1 d1, Value.bool m2, Value.slice p2 j2 d2]) N r ∧ Below w.heap.size w wc
theorem frK_new {w : World} {gX N : Nat} {m1 m2 n5 n6 : Bool} {p1 p2 a5 a6 : Option Addr} {j1 d1 j2 d2 k5 c5 k6 c6 : Nat} (E : RE U W KA KI ((Value.agg #[Value.bool n5, Value.slice a5 k5 c5, Value.bool n6, Value.slice a6 k6 c6], n, r) :: KR) ((Value.agg #[Value.bool n5, Value.slice a5 k5 c5, Value.bool n6, Value.slice a6 k6 c6], n, r) :: KS)) (hX : (Value.agg #[Value.bool m1, Value.slice p1 j1 d1, Value.bool m2, Value.slice p2 j2 d2], N, r) ∈ KS) (hW : Below w.heap.size w U) (bX : Box4 U gX (.bool m1) (.slice p1 j1 d1) (.bool m2) (.slice p2 j2 d2)) :
    FrK w (W.alloc (.cells #[.bool n5, .slice a5 k5 c5, .bool n6, .slice a6 k6 c6] 26)) gX N n r m1 p1 j1 d1 m2 p2 j2 d2 (.pointer (some ⟨W.heap.size, 0, none⟩)) (.int .i64 0) :=
  ⟨_, n5, a5, k5, c5, n6, a6, k6, c6, rfl, rfl, Box4.new _ _ _ _ _ _ rfl, (E.alloc _).s _ (List.Mem.head _), bX.keep (E.alloc _).bl, (E.alloc _).s _ (List.Mem.tail _ hX), below_call hW (E.alloc _).bl hW.size⟩
theorem frK_fill {w : World} {gX g9 N : Nat} {m1 m2 n5 n6 : Bool} {p1 p2 a5 a6 : Option Addr} {j1 d1 j2 d2 k5 c5 k6 c6 : Nat} (E : RE U W KA KI ((Value.agg #[Value.bool n5, Value.slice a5 k5 c5, Value.bool n6, Value.slice a6 k6 c6], n, r) :: KR) ((Value.agg #[Value.bool n5, Value.slice a5 k5 c5, Value.bool n6, Value.slice a6 k6 c6], n, r) :: KS)) (hX : (Value.agg #[Value.bool m1, Value.slice p1 j1 d1, Value.bool m2, Value.slice p2 j2 d2], N, r) ∈ KS) (hW : Below w.heap.size w U) (bX : Box4 U gX (.bool m1) (.slice p1 j1 d1) (.bool m2) (.slice p2 j2 d2)) (bz : Box4 U g9 (.bool false) (.slice none 0 0) (.bool false) (.slice none 0 0)) (h1 : gX < g9) (h2 : w.heap.size ≤ g9) :
    FrK w (fill4 W g9 (.bool n5) (.slice a5 k5 c5) (.bool n6) (.slice a6 k6 c6)) gX N n r m1 p1 j1 d1 m2 p2 j2 d2 (.pointer (some ⟨g9, 0, none⟩)) (.int .i64 0) :=
  ⟨_, n5, a5, k5, c5, n6, a6, k6, c6, rfl, rfl, (bz.keep E.bl).filled _ _ _ _, (E.refill (bz.keep E.bl) _ _ _ _).s _ (List.Mem.head _), (bX.keep E.bl).beside (by omega) _ _ _ _, (E.refill (bz.keep E.bl) _ _ _ _).s _ (List.Mem.tail _ hX), below_fill4 (below_call hW E.bl hW.size) h2 _ _ _ _⟩
end
theorem ris_parts {W : World} {m1 m2 : Bool} {p1 p2 : Option Addr} {j1 d1 j2 d2 n : Nat} {r : Rat} (h : RIs W 0 (Value.agg #[Value.bool m1, Value.slice p1 j1 d1, Value.bool m2, Value.slice p2 j2 d2]) n r) : Is W 0 (.agg #[.bool m1, .slice p1 j1 d1]) n r.num ∧ Is W 0 (.agg #[.bool m2, .slice p2 j2 d2]) n (r.den : Int) := by
  obtain ⟨_, _, _, _, _, _, _, _, hv, h1, h2⟩ := h
  simp only [Value.agg.injEq, Array.mk.injEq, List.cons.injEq, Value.bool.injEq, Value.slice.injEq, and_true] at hv
  obtain ⟨rfl, ⟨rfl, rfl, rfl⟩, rfl, rfl, rfl, rfl⟩ := hv
  exact ⟨h1, h2⟩

theorem ris_form {W : World} {v : Value} {n : Nat} {r : Rat} (h : RIs W 0 v n r) : ∃ n1 s1 l1 n2 s2 l2, v = .agg #[.bool n1, s1, .bool n2, s2] ∧ Sl W s1 l1 ∧ Sl W s2 l2 ∧ l1.length ≤ n ∧ l2.length ≤ n ∧ formB n1 l1 n2 l2 := by
  obtain ⟨n1, a1, k1, c1, n2, a2, k2, c2, rfl, ⟨m1, b1, d1, l1, e1, s1, -, g1, y1, z1⟩, ⟨m2, b2, d2, l2, e2, s2, -, g2, y2, z2⟩⟩ := h
  simp only [Value.agg.injEq, Array.mk.injEq, List.cons.injEq, Value.bool.injEq, Value.slice.injEq, and_true] at e1 e2
  obtain ⟨rfl, rfl, rfl, rfl⟩ := e1
  obtain ⟨rfl, rfl, rfl, rfl⟩ := e2
  refine ⟨n1, _, l1, n2, _, l2, rfl, ⟨_, _, rfl, s1⟩, ⟨_, _, rfl, s2⟩, g1, g2, ?_⟩
  have hd := r.den_pos
  refine ⟨y1, y2, by omega, ?_⟩
  have := r.reduced
  unfold Nat.Coprime at this
  rw [z1, sgn_abs] at this
  have h3 : r.den = val l2 := by
    have := sgn_abs n2 (val l2)
    rw [← z2] at this
    simpa using this
  rwa [h3] at this
theorem re_mayE {U W : World} {KA KI : List (Value × Nat × Int)} {KR KS : List (Value × Nat × Rat)} {v : Value} {n : Nat} {r : Rat} (E : RE U W KA KI KR KS) (hI : RIs W 0 v n r) (hn : n ≤ 400000) : Calls Tryz.prog 17 #[v] W fun e w' => e = .returned (.bool true) ∧ RE U w' KA KI KR KS := by
  obtain ⟨n1, s1, l1, n2, s2, l2, rfl, h1, h2, g1, g2, hf⟩ := ris_form hI
  refine (ratMay_any W n1 n2 s1 s2 l1 l2 h1 h2 (by omega) (by omega)).mono ?_
  rintro e w' ⟨rfl, hb⟩
  exact ⟨by rw [(form_may hf).1], E.step hb⟩

set_option maxHeartbeats 6400000 in
theorem lawRead_any (w : World) (kk : Int) (n1 n2 n3 n4 : Bool) (a1 a2 a3 a4 : Option Addr) (c1 c2 c3 c4 : Nat) (l1 l2 l3 l4 : List Nat) (hz1 : -9223372036854775808 ≤ kk) (hz2 : kk ≤ 9223372036854775807) (h1 : SlAt w a1 c1 l1) (h2 : SlAt w a2 c2 l2) (h3 : SlAt w a3 c3 l3) (h4 : SlAt w a4 c4 l4) (hE : ES w) (hM : ML w) :
    Calls Tryz.prog 4 #[.agg #[.bool n1, .slice a1 l1.length c1, .bool n2, .slice a2 l2.length c2], .agg #[.bool n3, .slice a3 l3.length c3, .bool n4, .slice a4 l4.length c4], .int .i64 kk] w fun e w' => e = .returned (.bool true) ∧ Below w.heap.size w w' := by
  have hk1 := slat_len h1
  have hk2 := slat_len h2
  have hk3 := slat_len h3
  have hk4 := slat_len h4
  have HX := hid (rarg_mk (n1 := n1) (n2 := n2) h1 h2)
  have HY := hid (rarg_mk (n1 := n3) (n2 := n4) h3 h4)
  have HE := hid hE
  have HM := hid hM
  clear h1 h2 h3 h4 hE hM
  generalize ratMean n1 l1 n2 l2 = r at *
  generalize ratMean n3 l3 n4 l4 = t at *
  generalize l1.length = L1 at *
  generalize l2.length = L2 at *
  generalize l3.length = L3 at *
  generalize l4.length = L4 at *
  go_enter Tryz.func4, Tryz.ntmps4
  go_wp2_with fail
  refine (great_r2 _ _ n1 n2 n3 n4 a1 a2 a3 a4 L1 c1 L2 c2 L3 c3 L4 c4 (by simp) hk1 hk2 hk3 hk4).mono ?_
  rintro e w0 ⟨rfl, rfl⟩
  have hW0 : Below w.heap.size w (((w.alloc (.cells #[.bool n1, .slice a1 L1 c1, .bool n2, .slice a2 L2 c2] 26)).alloc (.cells #[.bool n3, .slice a3 L3 c3, .bool n4, .slice a4 L4 c4] 26)).alloc (.cells #[.bool n1, .slice a1 L1 c1, .bool n2, .slice a2 L2 c2, .bool n3, .slice a3 L3 c3, .bool n4, .slice a4 L4 c4] 26)) := (by repeat (first | exact Below.refl _ _ | refine Below.alloc ?_ ?_ _ | refine Below.setCell ?_ ?_ _ | refine Below.drew ?_ | refine below_drewN ?_ _ | (· simp) | omega | (· simp; omega) | exact Below.size (by assumption) | assumption | refine below_call ?_ (by assumption) ?_))
  have bA : Box4 (((w.alloc (.cells #[.bool n1, .slice a1 L1 c1, .bool n2, .slice a2 L2 c2] 26)).alloc (.cells #[.bool n3, .slice a3 L3 c3, .bool n4, .slice a4 L4 c4] 26)).alloc (.cells #[.bool n1, .slice a1 L1 c1, .bool n2, .slice a2 L2 c2, .bool n3, .slice a3 L3 c3, .bool n4, .slice a4 L4 c4] 26)) w.heap.size (.bool n1) (.slice a1 L1 c1) (.bool n2) (.slice a2 L2 c2) := ((Box4.new _ _ _ _ _ _ rfl).alloc _).alloc _
  have bB : Box4 (((w.alloc (.cells #[.bool n1, .slice a1 L1 c1, .bool n2, .slice a2 L2 c2] 26)).alloc (.cells #[.bool n3, .slice a3 L3 c3, .bool n4, .slice a4 L4 c4] 26)).alloc (.cells #[.bool n1, .slice a1 L1 c1, .bool n2, .slice a2 L2 c2, .bool n3, .slice a3 L3 c3, .bool n4, .slice a4 L4 c4] 26)) (w.heap.size + 1) (.bool n3) (.slice a3 L3 c3) (.bool n4) (.slice a4 L4 c4) := (Box4.new _ _ _ _ _ _ (by simp)).alloc _
  generalize ((w.alloc (.cells #[.bool n1, .slice a1 L1 c1, .bool n2, .slice a2 L2 c2] 26)).alloc (.cells #[.bool n3, .slice a3 L3 c3, .bool n4, .slice a4 L4 c4] 26)).alloc (.cells #[.bool n1, .slice a1 L1 c1, .bool n2, .slice a2 L2 c2, .bool n3, .slice a3 L3 c3, .bool n4, .slice a4 L4 c4] 26) = W0 at *
  cases hG : greatR [(L1, L2), (L3, L4)]
  · obtain ⟨q1, q2⟩ := great_small hG (L1, L2) (List.Mem.head _)
    obtain ⟨q3, q4⟩ := great_small hG (L3, L4) (List.Mem.tail _ (List.Mem.head _))
    have E : RE W0 W0 [] [] [(Value.agg #[Value.bool n1, Value.slice a1 L1 c1, Value.bool n2, Value.slice a2 L2 c2], 6, r), (Value.agg #[Value.bool n3, Value.slice a3 L3 c3, Value.bool n4, Value.slice a4 L4 c4], 6, t)] [] := ((RE.none W0).knowR ((HY.out 6 q3 q4).below hW0)).knowR ((HX.out 6 q1 q2).below hW0)
    have HRT := hid (read_text r (textR_size (HX.out 6 q1 q2)))
    have hsz := textR_size (HX.out 6 q1 q2)
    clear HX HY hG hk1 hk2 hk3 hk4 q1 q2 q3 q4
    obtain ⟨x0, x1, x2, x3, y0, y1, y2, y3⟩ := keep44 bA bB (Below.refl _ _)
    go_wp2_with fail
    refine (re_rText E (List.Mem.head _) (by omega)).mono ?_
    rintro e w1 ⟨rfl, E1⟩
    have hW1 := below_call hW0 E1.bl hW0.size
    have bA1 := bA.keep E1.bl
    have bB1 := bB.keep E1.bl
    have F1 := E1.rebase
    have HSZ := hid hsz
    clear E E1 x0 x1 x2 x3 y0 y1 y2 y3 bA bB hW0 hsz
    go_wp2_with fail
    refine (ratRead_any w1 (textR r) (by have := HSZ.out; omega) (HE.out.below hW1) (HM.out.below hW1)).mono ?_
    rintro e w2 h
    obtain ⟨hr1, hr2⟩ := HRT.out
    rcases h with ⟨h, -⟩ | ⟨-, m1, p1, j1, d1, m2, p2, j2, d2, rfl, hI, hb2⟩
    · exact absurd hr1 h
    rw [hr2] at hI
    have E2 := (F1.step hb2).knowS hI
    have hW2 := below_call hW1 hb2 hW1.size
    have bA2 := bA1.keep hb2
    have bB2 := bB1.keep hb2
    clear F1 hb2 hI hr1 hr2 HRT bA1 bB1 hW1
    have hst : Below w2.heap.size w2 (w2.alloc (.cells #[.bool m1, .slice p1 j1 d1, .bool m2, .slice p2 j2 d2] 26)) := (Below.refl _ _).alloc (Nat.le_refl _) _
    have E3 := (E2.step hst).rebase
    have hW3 := below_call hW2 hst hW2.size
    have bA3 := bA2.keep hst
    have bB3 := bB2.keep hst
    have bX3 : Box4 (w2.alloc (.cells #[.bool m1, .slice p1 j1 d1, .bool m2, .slice p2 j2 d2] 26)) w2.heap.size (.bool m1) (.slice p1 j1 d1) (.bool m2) (.slice p2 j2 d2) := Box4.new _ _ _ _ _ _ rfl
    have lB2 := bB2.lt
    clear E2 hst bA2 bB2 hW2
    obtain ⟨b, hb⟩ : ∃ b, b = decide (r = t) := ⟨_, rfl⟩
    obtain ⟨z, hz⟩ : ∃ z, cmpR r t = z := ⟨_, rfl⟩
    have hzb : (z == 0) = b := by
      rw [← hz, hb]
      by_cases h : r = t
      · rw [decide_eq_true h, cmpR_eq h]; rfl
      · rw [decide_eq_false h]
        rcases cmpR_or r t with ⟨-, h2⟩ | ⟨h1, -⟩ | ⟨-, h2⟩
        · rw [h2]; rfl
        · exact absurd h1 h
        · rw [h2]; rfl
    have hT : ((textR r).toList == (textR t).toList) = b := by rw [textR_bool, hb]
    have HZ := hid hz
    have HZ0 := hid (show cmpR r r = 0 from cmpR_eq rfl)
    clear hb hz
    cases b
    all_goals
      go_wp2_with fail
      generalize w2.alloc (.cells #[.bool m1, .slice p1 j1 d1, .bool m2, .slice p2 j2 d2] 26) = W3 at *
      have E : RE W3 W3.drew [] [] [(Value.agg #[Value.bool m1, Value.slice p1 j1 d1, Value.bool m2, Value.slice p2 j2 d2], 20000, r), (Value.agg #[Value.bool n1, Value.slice a1 L1 c1, Value.bool n2, Value.slice a2 L2 c2], 6, r), (Value.agg #[Value.bool n3, Value.slice a3 L3 c3, Value.bool n4, Value.slice a4 L4 c4], 6, t)] [(Value.agg #[Value.bool m1, Value.slice p1 j1 d1, Value.bool m2, Value.slice p2 j2 d2], 20000, r)] := E3.drew
      have lX := bX3.lt
      go_region_held3 (fun W' => W'.cell? ⟨w.heap.size, 0, none⟩ = some (.bool n1) ∧ W'.cell? ⟨w.heap.size, 1, none⟩ = some (.slice a1 L1 c1) ∧ W'.cell? ⟨w.heap.size, 2, none⟩ = some (.bool n2) ∧ W'.cell? ⟨w.heap.size, 3, none⟩ = some (.slice a2 L2 c2) ∧ W'.cell? ⟨w.heap.size + 1, 0, none⟩ = some (.bool n3) ∧ W'.cell? ⟨w.heap.size + 1, 1, none⟩ = some (.slice a3 L3 c3) ∧ W'.cell? ⟨w.heap.size + 1, 2, none⟩ = some (.bool n4) ∧ W'.cell? ⟨w.heap.size + 1, 3, none⟩ = some (.slice a4 L4 c4) ∧ W'.cell? ⟨w2.heap.size, 0, none⟩ = some (.bool m1) ∧ W'.cell? ⟨w2.heap.size, 1, none⟩ = some (.slice p1 j1 d1) ∧ W'.cell? ⟨w2.heap.size, 2, none⟩ = some (.bool m2) ∧ W'.cell? ⟨w2.heap.size, 3, none⟩ = some (.slice p2 j2 d2)) (exact keep444 bA3 bB3 bX3 E.bl) (first
        | (go_at_call 12; go_must (refine (re_num E 0).mono ?_); rintro e wn ⟨rfl, En⟩; clear E; have E := En; clear En)
        | (go_at_call_of 13 (Value.agg #[Value.bool m1, Value.slice p1 j1 d1, Value.bool m2, Value.slice p2 j2 d2]); go_must (refine (re_rCmpV E (by repeat (first | exact List.Mem.head _ | refine List.Mem.tail _ ?_)) (by repeat (first | exact List.Mem.head _ | refine List.Mem.tail _ ?_)) HZ0.out (by omega) (by omega)).mono ?_); rintro e wn ⟨rfl, En⟩; clear E; have E := En; clear En)
        | (go_at_call_of 13 (Value.agg #[Value.bool n1, Value.slice a1 L1 c1, Value.bool n2, Value.slice a2 L2 c2]); go_must (refine (re_rCmpV E (by repeat (first | exact List.Mem.head _ | refine List.Mem.tail _ ?_)) (by repeat (first | exact List.Mem.head _ | refine List.Mem.tail _ ?_)) HZ.out (by omega) (by omega)).mono ?_); rintro e wn ⟨rfl, En⟩; clear E; have E := En; clear En)
        | (go_at_call_of 9 (Value.agg #[Value.bool n1, Value.slice a1 L1 c1, Value.bool n2, Value.slice a2 L2 c2]); go_must (refine (re_rText E (List.Mem.tail _ (List.Mem.head _)) (by omega)).mono ?_); rintro e wn ⟨rfl, En⟩; clear E; have E := En; clear En)
        | (go_at_call_of 9 (Value.agg #[Value.bool n3, Value.slice a3 L3 c3, Value.bool n4, Value.slice a4 L4 c4]); go_must (refine (re_rText E (List.Mem.tail _ (List.Mem.tail _ (List.Mem.head _))) (by omega)).mono ?_); rintro e wn ⟨rfl, En⟩; clear E; have E := En; clear En))
      have hW := below_call hW3 E.bl hW3.size
      have bX := bX3.keep E.bl
      have E4 := E.rebase
      clear E E3 bA3 bB3 bX3 hW3 HZ HZ0 hzb hT
      go_upto_if 44 with fail
      go_cut [2] (fun v wc => (∃ kq : Int, v = .int .i64 kq ∧ kq ≠ 0 ∧ -9223372036854775808 ≤ kq ∧ kq ≤ 9223372036854775807) ∧ wc = wn)
      case first =>
        by_cases hk0 : kk = 0
        · have hk1 : (kk == 0) = true := by simp [hk0]
          go_wp2
          go_meet
          exact ⟨⟨1, rfl, by omega, by omega, by omega⟩, rfl⟩
        · have hk1 : (kk == 0) = false := by simp [hk0]
          go_wp2
          go_meet
          exact ⟨⟨kk, rfl, hk0, hz1, hz2⟩, rfl⟩
      case rest =>
        obtain ⟨⟨kq, rfl, hq0, hq1, hq2⟩, rfl⟩ := hcut
        have hIX := E4.s _ (List.Mem.head _)
        simp only at hIX
        obtain ⟨N, hN, hIX⟩ : ∃ N, N ≤ 20000 ∧ RIs wc 0 (Value.agg #[Value.bool m1, Value.slice p1 j1 d1, Value.bool m2, Value.slice p2 j2 d2]) N r := ⟨20000, Nat.le_refl _, hIX⟩
        obtain ⟨I1, I2⟩ := ris_parts hIX
        have E : RE wc wc [(.agg #[.bool m1, .slice p1 j1 d1], N, r.num), (.agg #[.bool m2, .slice p2 j2 d2], N, (r.den : Int))] [] [(Value.agg #[Value.bool m1, Value.slice p1 j1 d1, Value.bool m2, Value.slice p2 j2 d2], N, r)] [(Value.agg #[Value.bool m1, Value.slice p1 j1 d1, Value.bool m2, Value.slice p2 j2 d2], N, r)] := (((RE.none wc).knowS hIX).know I2.arg).know I1.arg
        have HQV : Hid (Rat.divInt (r.num * kq) ((r.den : Int) * kq) = r) := hid (by rw [Rat.divInt_mul_right hq0]; exact Rat.num_divInt_den r)
        have HD : Hid ((r.den : Int) * kq ≠ 0) := hid (Int.mul_ne_zero (by have := r.den_nz; omega) hq0)
        have HQ := hid (And.intro hq1 hq2)
        have hN5 : N ≤ 400000 := by omega
        have hN6 : N ≤ 500000 := by omega
        have h25 : 2 ≤ 500000 := by omega
        have hN7 : N + 2 ≤ 100000 := by omega
        clear E4 hIX I1 I2 hq0 hz1 hz2 hq1 hq2 hN
        go_wp2_with fail
        go_cut [9, 10] (fun p9 e10 w9 => FrK w w9 w2.heap.size N (N + 2 + (N + 2)) r m1 p1 j1 d1 m2 p2 j2 d2 p9 e10)
        case first =>
          go_region_held3 (fun W' => W'.cell? ⟨w2.heap.size, 0, none⟩ = some (.bool m1) ∧ W'.cell? ⟨w2.heap.size, 1, none⟩ = some (.slice p1 j1 d1) ∧ W'.cell? ⟨w2.heap.size, 2, none⟩ = some (.bool m2) ∧ W'.cell? ⟨w2.heap.size, 3, none⟩ = some (.slice p2 j2 d2)) (first | with_reducible exact (bX.keep E.bl).c | with_reducible exact (bX.keep E.drew.bl).c | with_reducible exact (bX.keep (E.alloc _).drew.bl).c | with_reducible exact (bX.keep (E.alloc _).bl).c | (rw [fill4_eq]; with_reducible exact (((bX.keep E.bl).beside (by omega) _ _ _ _)).c) | (rw [fill4_eq]; with_reducible exact ((bX.keep (E.alloc _).bl).beside (by omega) _ _ _ _).c) | exact (((bX.keep E.bl).beside (by omega) _ _ _ _)).c | exact ((bX.keep (E.alloc _).bl).beside (by omega) _ _ _ _).c) (first
            | (go_at_call 16; (first | (with_reducible refine (re_rof E kq HQ.out.1 HQ.out.2).mono ?_) | (with_reducible refine (re_rof E.drew kq HQ.out.1 HQ.out.2).mono ?_) | (obtain ⟨E', hW', bX', bz, lx⟩ := re_freshK E hW bX; clear E hW bX; have E := E'; have hW := hW'; have bX := bX'; clear E' hW' bX'; (try simp only [dsize] at lx bz); first | (with_reducible refine (re_rof E kq HQ.out.1 HQ.out.2).mono ?_) | (with_reducible refine (re_rof E.drew kq HQ.out.1 HQ.out.2).mono ?_))); rintro e wn ⟨nn, an, kn, cn, rfl, En⟩; clear E; have E := En; clear En; (try (clear z0 z1 z2 z3 zf zl)); (try (obtain ⟨z0, z1, z2, z3⟩ := (bz.keep E.bl).c; have zf := (bz.keep E.bl).f; have zl := (bz.keep E.bl).lt)))
            | (go_at_call 15; (first | (with_reducible refine (re_rmulK E (by with_unfolding_all repeat (first | exact List.Mem.head _ | refine List.Mem.tail _ ?_)) (by with_unfolding_all repeat (first | exact List.Mem.head _ | refine List.Mem.tail _ ?_)) (by assumption) (by assumption)).mono ?_) | (with_reducible refine (re_rmulK E.drew (by with_unfolding_all repeat (first | exact List.Mem.head _ | refine List.Mem.tail _ ?_)) (by with_unfolding_all repeat (first | exact List.Mem.head _ | refine List.Mem.tail _ ?_)) (by assumption) (by assumption)).mono ?_) | (obtain ⟨E', hW', bX', bz, lx⟩ := re_freshK E hW bX; clear E hW bX; have E := E'; have hW := hW'; have bX := bX'; clear E' hW' bX'; (try simp only [dsize] at lx bz); first | (with_reducible refine (re_rmulK E (by with_unfolding_all repeat (first | exact List.Mem.head _ | refine List.Mem.tail _ ?_)) (by with_unfolding_all repeat (first | exact List.Mem.head _ | refine List.Mem.tail _ ?_)) (by assumption) (by assumption)).mono ?_) | (with_reducible refine (re_rmulK E.drew (by with_unfolding_all repeat (first | exact List.Mem.head _ | refine List.Mem.tail _ ?_)) (by with_unfolding_all repeat (first | exact List.Mem.head _ | refine List.Mem.tail _ ?_)) (by assumption) (by assumption)).mono ?_))); rintro e wn ⟨nn, an, kn, cn, rfl, En⟩; clear E; have E := En; clear En; (try (clear z0 z1 z2 z3 zf zl)); (try (obtain ⟨z0, z1, z2, z3⟩ := (bz.keep E.bl).c; have zf := (bz.keep E.bl).f; have zl := (bz.keep E.bl).lt)))
            | (go_at_call 14; (first | (with_reducible refine (re_quo E (by with_unfolding_all repeat (first | exact List.Mem.head _ | refine List.Mem.tail _ ?_)) (by with_unfolding_all repeat (first | exact List.Mem.head _ | refine List.Mem.tail _ ?_)) HD.out (by assumption) (by assumption)).mono ?_) | (with_reducible refine (re_quo E.drew (by with_unfolding_all repeat (first | exact List.Mem.head _ | refine List.Mem.tail _ ?_)) (by with_unfolding_all repeat (first | exact List.Mem.head _ | refine List.Mem.tail _ ?_)) HD.out (by assumption) (by assumption)).mono ?_) | (obtain ⟨E', hW', bX', bz, lx⟩ := re_freshK E hW bX; clear E hW bX; have E := E'; have hW := hW'; have bX := bX'; clear E' hW' bX'; (try simp only [dsize] at lx bz); first | (with_reducible refine (re_quo E (by with_unfolding_all repeat (first | exact List.Mem.head _ | refine List.Mem.tail _ ?_)) (by with_unfolding_all repeat (first | exact List.Mem.head _ | refine List.Mem.tail _ ?_)) HD.out (by assumption) (by assumption)).mono ?_) | (with_reducible refine (re_quo E.drew (by with_unfolding_all repeat (first | exact List.Mem.head _ | refine List.Mem.tail _ ?_)) (by with_unfolding_all repeat (first | exact List.Mem.head _ | refine List.Mem.tail _ ?_)) HD.out (by assumption) (by assumption)).mono ?_))); rintro e wn ⟨n5, a5, k5, c5, n6, a6, k6, c6, rfl, En⟩; clear E; have E := En; clear En; (try (clear z0 z1 z2 z3 zf zl)); (try (obtain ⟨z0, z1, z2, z3⟩ := (bz.keep E.bl).c; have zf := (bz.keep E.bl).f; have zl := (bz.keep E.bl).lt))))
          all_goals (rw [HQV.out] at E; go_wp2_with fail; go_meet; first | with_reducible exact frK_new E (List.Mem.head _) hW bX | (rw [fill4_eq]; with_reducible exact frK_fill E (List.Mem.head _) hW bX bz lx (by omega)))
        case rest =>
          obtain ⟨g9, n5, a5, k5, c5, n6, a6, k6, c6, rfl, rfl, b9, I9, bX9, IX9, hW9⟩ := hcut
          have E : RE wc wc [] [] [(Value.agg #[Value.bool n5, Value.slice a5 k5 c5, Value.bool n6, Value.slice a6 k6 c6], N + 2 + (N + 2), r), (Value.agg #[Value.bool m1, Value.slice p1 j1 d1, Value.bool m2, Value.slice p2 j2 d2], N, r)] [(Value.agg #[Value.bool n5, Value.slice a5 k5 c5, Value.bool n6, Value.slice a6 k6 c6], N + 2 + (N + 2), r), (Value.agg #[Value.bool m1, Value.slice p1 j1 d1, Value.bool m2, Value.slice p2 j2 d2], N, r)] := ((RE.none wc).knowS IX9).knowS I9
          obtain ⟨x0, x1, x2, x3⟩ := b9.c
          obtain ⟨y0, y1, y2, y3⟩ := bX9.c
          have HIX := hid IX9
          clear I9 IX9 hW bX HQV HD HQ hN7
          go_wp2_with (first
            | (go_at_call 12; refine (re_num E 0).mono ?_; rintro e wn ⟨rfl, En⟩; clear E; have E := En; clear En x0 x1 x2 x3 y0 y1 y2 y3; obtain ⟨x0, x1, x2, x3⟩ := (b9.keep E.bl).c; obtain ⟨y0, y1, y2, y3⟩ := (bX9.keep E.bl).c)
            | (go_at_call 11; refine (re_sameRatE E (List.Mem.head _) (List.Mem.tail _ (List.Mem.head _)) rfl).mono ?_; rintro e wn ⟨rfl, En⟩; clear E; have E := En; clear En x0 x1 x2 x3 y0 y1 y2 y3; obtain ⟨x0, x1, x2, x3⟩ := (b9.keep E.bl).c; obtain ⟨y0, y1, y2, y3⟩ := (bX9.keep E.bl).c)
            | (go_at_call 17; refine (re_mayE E (RIs.below HIX.out E.bl) (Nat.le_trans hN5 (by omega))).mono ?_; rintro e wn ⟨rfl, En⟩; clear E; have E := En; clear En x0 x1 x2 x3 y0 y1 y2 y3; obtain ⟨x0, x1, x2, x3⟩ := (b9.keep E.bl).c; obtain ⟨y0, y1, y2, y3⟩ := (bX9.keep E.bl).c)
            | (go_at_call 6; refine (awake2_any _).mono ?_; rintro e wn ⟨rfl, hb9⟩))
          go_ret
          have hWE := below_call hW9 E.bl hW9.size
          exact ⟨rfl, below_call hWE hb9 hWE.size⟩
  · clear HX HY hk1 hk2 hk3 hk4 hG
    go_wp2_with fail
    refine (awake2_any _).mono ?_
    rintro e w1 ⟨rfl, hb⟩
    have HB := hid (below_call hW0 hb hW0.size)
    clear hb hW0 bA bB
    go_wp2
    go_ret
    exact ⟨rfl, HB.out⟩

end Go.Proofs.YtajjhlncfagncaaGreatDoor
