/-
  Walks: the document's way of reading a quotient.
-/
import Derived.Test.YtogdchddmjokmaaGreatDoorK11
import Derived.Test.YtogdchddmjokmaaGreatDoorT3e
namespace Go.Proofs.YtogdchddmjokmaaGreatDoor
open Go.RowKit Lm
set_option linter.unusedSimpArgs false
set_option linter.unusedVariables false
set_option maxRecDepth 100000

def CutRel (s : ByteArray) (cv : Value) (i : Nat) : Prop :=
  (cv = .int .i64 (-1) ∧ ∀ k (hk : k < s.size), k < i → s[k] ≠ 47) ∨ ∃ j, j + 1 = i ∧ cv = .int .i64 (j : Int) ∧ (∃ hj : j < s.size, s[j] = 47) ∧ ∀ k (hk : k < s.size), k < j → s[k] ≠ 47
theorem list_get (s : ByteArray) (k : Nat) (hk : k < s.size) (h2 : k < s.data.toList.length) : s.data.toList[k] = s[k] := rfl
theorem all_no (s : ByteArray) (h : ∀ k (hk : k < s.size), k < s.size → s[k] ≠ 47) : ∀ c ∈ s.data.toList, c ≠ 47 := by
  intro c hc
  obtain ⟨k, hk, rfl⟩ := List.getElem_of_mem hc
  exact h k (by rw [data_len] at hk; exact hk) (by rw [data_len] at hk; exact hk)
theorem take_no (s : ByteArray) (j : Nat) (hj : j < s.size) (h : ∀ k (hk : k < s.size), k < j → s[k] ≠ 47) : ∀ c ∈ s.data.toList.take j, c ≠ 47 := by
  intro c hc
  obtain ⟨k, hk, rfl⟩ := List.getElem_of_mem hc
  rw [List.length_take, data_len] at hk
  rw [List.getElem_take]
  exact h k (by omega) (by omega)
/-- An operation that is not wanted is passed by. -/
theorem any_skip {P : Program} {md : Region.Mode} {ops : Array Oper} {Q : Exit → Act → World → Prop} {i : Nat} {oi : Oper} {fuel : Nat} {listed : Array Bool} {a : Act} {w : World} (hi : ops[i]? = some oi)
    (hQ : ∀ c a w, Q (.panic c) (a.put oi.dst undef) w → Q (.panic c) a w) (hs : Region.noSelect ops = true) (hf : Region.free md ops listed i = true) (hr : (Region.ready md ops listed).contains i = true)
    (hg : Region.wanted oi (yielded ops a.tmps) = false) (ha : a.put oi.dst undef = a)
    (h : wpAny P md ops Q fuel (listed.setIfInBounds i true) a w) : wpAny P md ops Q (fuel + 1) listed a w :=
  wpAny_take (v := undef) hi hs hf hr hQ (Or.inr ⟨hg, rfl⟩) (by rw [ha]; exact h)
theorem rread_one (w : World) (s : ByteArray) (hs : s.size ≤ 100) : Calls Tryz.prog 18 #[.string s] w fun e w' => ∃ neg ao k cap b z, e = .returned (.tuple #[.agg #[.bool neg, .slice ao k cap], .bool b]) ∧ Is w' 0 (.agg #[.bool neg, .slice ao k cap]) 300 z ∧ ((b = false ∧ ¬ mayRead (lst s)) ∨ (b = true ∧ mayRead (lst s) ∧ readV (lst s) = z)) ∧ Below w.heap.size w w' := by
  refine (rread_any w s (by omega)).mono ?_
  rintro e w' (⟨hm, rfl, hb⟩ | ⟨hm, neg, ao, k, cap, rfl, hI, hb⟩)
  · exact ⟨false, none, 0, 0, false, 0, rfl, (is_zero w').mono (Nat.le_refl _) (by omega), .inl ⟨rfl, hm⟩, hb⟩
  · exact ⟨neg, ao, k, cap, true, _, rfl, hI.mono (Nat.zero_le _) (by omega), .inr ⟨rfl, hm, rfl⟩, hb⟩
theorem is_len1 {W : World} {n cap : Nat} {neg : Bool} {ao : Option Addr} {z : Int} (h : Is W 0 (.agg #[.bool neg, .slice ao 0 cap]) n z) : z = 0 := by
  obtain ⟨neg', ao', cap', l, e, h1, h2, h3, h4, h5⟩ := h
  simp only [Value.agg.injEq, Array.mk.injEq, List.cons.injEq, Value.bool.injEq, Value.slice.injEq, and_true] at e
  obtain ⟨rfl, rfl, hl, rfl⟩ := e
  rw [List.eq_nil_of_length_eq_zero hl.symm] at h5
  rw [h5]
  unfold sgn
  split <;> simp [val]
theorem readE_bad (s : ByteArray) (hz : s.size ≤ 10001) (j : Nat) (hj : j < s.data.toList.length) (h1 : s.data.toList[j] = 47) (h : ∀ c ∈ s.data.toList.take j, c ≠ 47)
    (hm : ¬ mayRead (lst (s.extract 0 j)) ∨ ¬ mayRead (lst (s.extract (j + 1) s.size))) : readE s = 4 := by
  obtain ⟨e1, e2⟩ := at_slash s j hj h1 h
  unfold readE
  rw [if_neg (by omega), if_pos]
  rw [e1, e2]
  rcases hm with hm | hm
  · exact .inl (fun h => hm ((may_text _).2 h))
  · exact .inr (fun h => hm ((may_text _).2 h))
theorem keep42 {W W' : World} {g h : Nat} {a b c d x y : Value} (hA : Box4 W g a b c d) (hB : Box W h x y) (hb : Below W.heap.size W W') : W'.cell? ⟨g, 0, none⟩ = some a ∧ W'.cell? ⟨g, 1, none⟩ = some b ∧ W'.cell? ⟨g, 2, none⟩ = some c ∧ W'.cell? ⟨g, 3, none⟩ = some d ∧ W'.cell? ⟨h, 0, none⟩ = some x ∧ W'.cell? ⟨h, 1, none⟩ = some y := by
  obtain ⟨h0, h1, h2, h3⟩ := (hA.keep hb).c
  obtain ⟨h4, h5⟩ := keepB hB hb
  exact ⟨h0, h1, h2, h3, h4, h5⟩
theorem rmay_is (W : World) {n1 n2 : Bool} {a1 a2 : Option Addr} {k1 c1 k2 c2 n : Nat} {p q : Int} (h1 : Is W 0 (.agg #[.bool n1, .slice a1 k1 c1]) n p) (h2 : Is W 0 (.agg #[.bool n2, .slice a2 k2 c2]) n q) (hn : n ≤ 100000) (hq0 : q ≠ 0) (b : Bool) (hb : b = decide (0 < q ∧ Nat.gcd p.natAbs q.natAbs = 1)) :
    Calls Tryz.prog 19 #[.agg #[.bool n1, .slice a1 k1 c1, .bool n2, .slice a2 k2 c2]] W fun e w' => e = .returned (.bool b) ∧ Below W.heap.size W w' := by
  obtain ⟨m1, b1, d1, l1, e1, s1, -, g1, y1, z1⟩ := h1
  obtain ⟨m2, b2, d2, l2, e2, s2, -, g2, y2, z2⟩ := h2
  simp only [Value.agg.injEq, Array.mk.injEq, List.cons.injEq, Value.bool.injEq, Value.slice.injEq, and_true] at e1 e2
  obtain ⟨rfl, rfl, rfl, rfl⟩ := e1
  obtain ⟨rfl, rfl, rfl, rfl⟩ := e2
  refine (rmayRat_any W n1 n2 a1 a2 c1 c2 l1 l2 s1 s2 (by omega) (by omega)).mono ?_
  rintro e w' ⟨rfl, hbl⟩
  refine ⟨?_, hbl⟩
  have hab : Nat.gcd p.natAbs q.natAbs = Nat.gcd (val l1) (val l2) := by rw [z1, z2, sgn_abs, sgn_abs]
  have hcm : cmpI (mean n2 l2) 0 ≠ 0 := by
    rw [mean_may y2, ← z2]
    exact cmpI_ne hq0
  have hr : ratMayB n1 l1 n2 l2 = b := by
    rw [hb, Bool.eq_iff_iff, decide_eq_true_eq]
    constructor
    · intro h
      obtain ⟨-, -, f1, f2⟩ := may_form h hcm
      exact ⟨by rw [z2]; exact f1, by rw [hab]; exact f2⟩
    · rintro ⟨f1, f2⟩
      exact (form_may ⟨y1, y2, by rw [← z2]; exact f1, by rw [← hab]; exact f2⟩).1
  rw [hr]
theorem re_rmay {U W : World} {KA KI : List (Value × Nat × Int)} {KR KS : List (Value × Nat × Rat)} {n1 n2 : Bool} {a1 a2 : Option Addr} {k1 c1 k2 c2 : Nat} {p q : Int} (E : RE U W KA KI KR KS) (h1 : (.agg #[.bool n1, .slice a1 k1 c1], 300, p) ∈ KI) (h2 : (.agg #[.bool n2, .slice a2 k2 c2], 300, q) ∈ KI) (hq0 : q ≠ 0) (b : Bool) (hb : b = decide (0 < q ∧ Nat.gcd p.natAbs q.natAbs = 1)) :
    Calls Tryz.prog 19 #[.agg #[.bool n1, .slice a1 k1 c1, .bool n2, .slice a2 k2 c2]] W fun e w' => e = .returned (.bool b) ∧ RE U w' KA KI KR KS := by
  refine (rmay_is W (E.i _ h1) (E.i _ h2) (by simp) hq0 b hb).mono ?_
  rintro e w' ⟨rfl, hb⟩
  exact ⟨rfl, E.step hb⟩
theorem ris_mk {W : World} {n1 n2 : Bool} {a1 a2 : Option Addr} {k1 c1 k2 c2 n : Nat} {p q : Int} (h1 : Is W 0 (.agg #[.bool n1, .slice a1 k1 c1]) n p) (h2 : Is W 0 (.agg #[.bool n2, .slice a2 k2 c2]) n q) (hq : 0 < q) (hg : Nat.gcd p.natAbs q.natAbs = 1) : RIs W 0 (.agg #[.bool n1, .slice a1 k1 c1, .bool n2, .slice a2 k2 c2]) n (Rat.divInt p q) := by
  obtain ⟨d1, d2⟩ := divInt_parts hq hg
  exact ⟨_, _, _, _, _, _, _, _, rfl, by rw [d1]; exact h1, by rw [d2]; exact h2⟩
set_option maxHeartbeats 3200000 in
theorem rReadRat_any (w : World) (s : ByteArray) (hsz : s.size ≤ 9223372036854775807) (hs : s.size ≤ 100 ∨ 10001 < s.size) : Calls Tryz.prog 7 #[.string s] w (ReadP w s) := by
  by_cases hl : 10001 < s.size
  · have hi : (10001 : Int) < (s.size : Int) := by omega
    have HR : Hid (readE s = 2) := hid (by rw [readE, if_pos hl])
    go_enter Tryz.func7, Tryz.ntmps7
    go_wp2
    refine bodyPost_ret (v := .tuple #[(.agg #[.bool false, .slice none 0 0, .bool false, .slice none 0 0]), .int .i64 (2 : Nat)]) ?_ rfl (.inl ⟨by rw [HR.out]; omega, by rw [HR.out], (Below.refl _ _).alloc (Nat.le_refl _) _⟩)
    simp [results, Tryz.results7, go_sem]
  · have hs1 : s.size ≤ 100 := by omega
    have hi : ¬ (10001 : Int) < (s.size : Int) := by omega
    clear hs hl
    go_enter Tryz.func7, Tryz.ntmps7
    go_wp2_with fail
    have hWF : Below w.heap.size w (w.alloc (.cells #[.bool false, .slice none 0 0, .bool false, .slice none 0 0] 26)) := (by repeat (first | exact Below.refl _ _ | refine Below.alloc ?_ ?_ _ | refine Below.setCell ?_ ?_ _ | refine Below.drew ?_ | refine below_drewN ?_ _ | (· simp) | omega | (· simp; omega) | exact Below.size (by assumption) | assumption | refine below_call ?_ (by assumption) ?_))
    have bR : Box4 (w.alloc (.cells #[.bool false, .slice none 0 0, .bool false, .slice none 0 0] 26)) w.heap.size (.bool false) (.slice none 0 0) (.bool false) (.slice none 0 0) := Box4.new _ _ _ _ _ _ rfl
    generalize w.alloc (.cells #[.bool false, .slice none 0 0, .bool false, .slice none 0 0] 26) = W0 at *
    go_loop [4, 5] (fun cv iv => ∃ i : Nat, i ≤ s.size ∧ iv = .int .i64 (i : Int) ∧ CutRel s cv i) (fun cv iv => s.size - (intOf iv).toNat)
    case atStart => exact ⟨0, by omega, rfl, .inl ⟨rfl, fun k hk h => absurd h (by omega)⟩⟩
    case round =>
      obtain ⟨i, hin, rfl, hrel⟩ := hrel
      rcases hrel with ⟨rfl, hno⟩ | ⟨j, hji, rfl, ⟨hj, hjs⟩, hno⟩
      · have HNO := hid hno
        clear hno
        by_cases hlt : i < s.size
        · by_cases h47 : s[i] = 47
          · have H47 := hid h47
            have c5 : ((s[i].toNat : Int) == 47) = true := by rw [h47]; rfl
            clear h47
            go_wp2
            refine ⟨⟨i + 1, by omega, by go_num, .inr ⟨i, rfl, rfl, ⟨hlt, H47.out⟩, HNO.out⟩⟩, ?_⟩
            simp only [intOf]
            omega
          · have H47 := hid h47
            have c5 : ((s[i].toNat : Int) == 47) = false := by
              rw [beq_eq_false_iff_ne]
              intro h
              exact h47 (UInt8.toNat_inj.1 (by have : s[i].toNat = 47 := by omega
                                               rw [this]; rfl))
            clear h47
            go_wp2
            refine ⟨⟨i + 1, by omega, by go_num, .inl ⟨rfl, fun k hk hki => ?_⟩⟩, ?_⟩
            · by_cases hk2 : k = i
              · subst hk2; exact H47.out
              · exact HNO.out k hk (by omega)
            · simp only [intOf]
              omega
        · obtain rfl : i = s.size := by omega
          have hall := all_no s (fun k hk _ => HNO.out k hk (by omega))
          obtain ⟨q1, q2⟩ := readE_plain s (by omega) hall
          have HQ1 := hid q1
          have HQ2 := hid q2
          clear HNO hall q1 q2
          go_wp2_with fail
          refine (rread_any W0 s (by omega)).mono ?_
          rintro e w1 (⟨hm, rfl, hb1⟩ | ⟨hm, neg, ao, k, cap, rfl, hI, hb1⟩)
          · have HR4 := hid (HQ2.out hm)
            have hst : Below w1.heap.size w1 (w1.alloc (.cells #[.bool false, .slice none 0 0] 24)) := (Below.refl _ _).alloc (Nat.le_refl _) _
            have hW1 := below_call hWF hb1 hWF.size
            have bR2 := (bR.keep hb1).keep hst
            have hWF2 := below_call hW1 hst hW1.size
            clear hWF bR hb1 hW1 hst HQ1 HQ2 hm
            have hWF := hWF2
            obtain ⟨r0, r1, r2, r3⟩ := bR2.c
            have rf := bR2.f
            have rl := bR2.lt
            (go_wp2; (refine bodyPost_ret (v := .tuple #[(.agg #[.bool false, .slice none 0 0, .bool false, .slice none 0 0]), .int .i64 (4 : Nat)]) ?_ rfl (.inl ⟨by rw [HR4.out]; omega, by rw [HR4.out], below_fill4 hWF (Nat.le_refl _) _ _ _ _⟩)); simp [results, Tryz.results7, go_sem, r0, r1, r2, r3])
          · obtain ⟨hE0, hQ0⟩ := HQ1.out hm
            have HE0 := hid hE0
            have HQ0 := hid hQ0
            have hW1 := below_call hWF hb1 hWF.size
            have hst : Below w1.heap.size w1 (w1.alloc (.cells #[.bool neg, .slice ao k cap] 24)) := (Below.refl _ _).alloc (Nat.le_refl _) _
            have bX : Box (w1.alloc (.cells #[.bool neg, .slice ao k cap] 24)) w1.heap.size (.bool neg) (.slice ao k cap) := Box.new _ _ _ _ rfl
            have hW2 := below_call hW1 hst hW1.size
            have bR1 := bR.keep hb1
            have hlt1 := bR1.lt
            have bR2 := bR1.keep hst
            have hI2 := (hI.mono (Nat.zero_le _) (show 3 * s.size ≤ 300 by omega)).below hst
            clear hE0 hQ0 HQ1 HQ2 hm hI hb1 hst hW1 bR1 bR hWF
            go_wp2_with fail
            generalize w1.alloc (.cells #[.bool neg, .slice ao k cap] 24) = W2 at *
            have E : RE W2 W2.drew [(.agg #[.bool neg, .slice ao k cap], 300, readV (lst s))] [(.agg #[.bool neg, .slice ao k cap], 300, readV (lst s))] [] [] := ((RE.none W2).knowI hI2).drew
            clear hI2
            go_region_held3 (fun W' => W'.cell? ⟨w1.heap.size, 0, none⟩ = some (.bool neg) ∧ W'.cell? ⟨w1.heap.size, 1, none⟩ = some (.slice ao k cap)) (first | with_reducible exact keepB bX E.bl | (rw [fill4_eq]; with_reducible exact keepB ((bX.keep E.bl).beside4 (by omega) _ _ _ _) (Below.refl _ _))) (first
              | (go_at_call 13; go_must (refine (re_rof E 1 (by omega) (by omega)).mono ?_); rintro e wn ⟨nn, an, kn, cn, rfl, En⟩; clear E; have E := En; clear En; obtain ⟨r0, r1, r2, r3⟩ := (bR2.keep E.bl).c; have rf := (bR2.keep E.bl).f; have rl := (bR2.keep E.bl).lt))
            all_goals
              have I1 : Is wn 0 (.agg #[.bool neg, .slice ao k cap]) 20000 (readV (lst s)) := (E.i _ (List.Mem.tail _ (List.Mem.head _))).mono (Nat.le_refl _) (show 300 ≤ 20000 by omega)
              have I2 : Is wn 0 (.agg #[.bool nn, .slice an kn cn]) 20000 1 := (E.i _ (List.Mem.head _)).mono (Nat.le_refl _) (show 2 ≤ 20000 by omega)
              have bR5 := bR2.keep E.bl
              have HJ := hid ((ris_mk I1 I2 (by omega) (by simp)).off4 bR5 (grow4 _ w.heap.size (.bool neg) (.slice ao k cap) (.bool nn) (.slice an kn cn)))
              have HW := hid (below_fill4 (below_call hW2 E.bl hW2.size) (Nat.le_refl _) (.bool neg) (.slice ao k cap) (.bool nn) (.slice an kn cn))
              clear I1 I2 bR5 E hW2 bR2
              go_wp2
              refine bodyPost_ret (v := .tuple #[.agg #[.bool neg, .slice ao k cap, .bool nn, .slice an kn cn], .int .i64 0]) ?_ rfl (.inr ⟨HE0.out, neg, ao, k, cap, nn, an, kn, cn, rfl, by rw [HQ0.out]; exact HJ.out, HW.out⟩)
              simp [results, Tryz.results7, go_sem, r0, r1, r2, r3]
      · have HNO := hid (take_no s j hj hno)
        have HJS := hid hjs
        have hj64 : (j : Int) ≤ (s.size : Int) := by omega
        have hj0 : (0 : Int) ≤ (j : Int) := by omega
        have hj1 : (j : Int) + 1 ≤ (s.size : Int) := by omega
        subst hji
        clear hno hjs
        have hjn : decide ((j : Int) < 0) = false := by simp
        by_cases hjl : (j : Int) + 1 < (s.size : Int)
        all_goals
          go_wp2_with fail
          refine (rread_one W0 (s.extract 0 j) (by rw [ext_size _ _ _ (by omega)]; omega)).mono ?_
          rintro e w1 ⟨neg1, ao1, k1, cap1, b1, p, rfl, hI1, hp, hb1⟩
          have hW1 := below_call hWF hb1 hWF.size
          have bR1 := bR.keep hb1
          have hst : Below w1.heap.size w1 (w1.alloc (.cells #[.bool neg1, .slice ao1 k1 cap1] 24)) := (Below.refl _ _).alloc (Nat.le_refl _) _
          have bX : Box (w1.alloc (.cells #[.bool neg1, .slice ao1 k1 cap1] 24)) w1.heap.size (.bool neg1) (.slice ao1 k1 cap1) := Box.new _ _ _ _ rfl
          have hW2 := below_call hW1 hst hW1.size
          have bR2 := bR1.keep hst
          have HI1 := hid (hI1.below hst)
          have HP := hid hp
          have hlt1 := bR1.lt
          clear hI1 hp hb1 hW1 bR1 bR hWF hst
          go_wp2_with fail
          generalize w1.alloc (.cells #[.bool neg1, .slice ao1 k1 cap1] 24) = W2 at *
          refine (rread_one W2 (s.extract (j + 1) s.size) (by rw [ext_size _ _ _ (by omega)]; omega)).mono ?_
          rintro e w3 ⟨neg2, ao2, k2, cap2, b2, q, rfl, hI2, hq, hb3⟩
          have hW3 := below_call hW2 hb3 hW2.size
          have bR3 := bR2.keep hb3
          have hst : Below w3.heap.size w3 (w3.alloc (.cells #[.bool neg2, .slice ao2 k2 cap2] 24)) := (Below.refl _ _).alloc (Nat.le_refl _) _
          have bY : Box (w3.alloc (.cells #[.bool neg2, .slice ao2 k2 cap2] 24)) w3.heap.size (.bool neg2) (.slice ao2 k2 cap2) := Box.new _ _ _ _ rfl
          have bX4 := (bX.keep hb3).keep hst
          have HI1b := hid ((HI1.out.below hb3).below hst)
          have HI2 := hid (hI2.below hst)
          have HQ := hid hq
          have hlt2 := (bX.keep hb3).lt
          have hWF := below_call hW3 hst hW3.size
          have bR4 := bR3.keep hst
          clear hI2 hq hb3 hW3 hW2 bR3 bR2 bX hst HI1
          by_cases hbb : b1 = true ∧ b2 = true
          · obtain ⟨rfl, rfl⟩ := hbb
            go_upto_if 65 with fail
            generalize w3.alloc (.cells #[.bool neg2, .slice ao2 k2 cap2] 24) = W4 at *
            obtain ⟨r0, r1, r2, r3⟩ := bR4.c
            have rf := bR4.f
            have rl := bR4.lt
            obtain ⟨x0, x1⟩ := keepB bX4 (Below.refl _ _)
            obtain ⟨y0, y1⟩ := keepB bY (Below.refl _ _)
            have xl := bX4.lt
            have yl := bY.lt
            obtain ⟨m1, v1⟩ : mayRead (lst (s.extract 0 j)) ∧ readV (lst (s.extract 0 j)) = p := by
              rcases HP.out with ⟨h, -⟩ | ⟨-, h1, h2⟩
              · cases h
              · exact ⟨h1, h2⟩
            obtain ⟨m2, v2⟩ : mayRead (lst (s.extract (j + 1) s.size)) ∧ readV (lst (s.extract (j + 1) s.size)) = q := by
              rcases HQ.out with ⟨h, -⟩ | ⟨-, h1, h2⟩
              · cases h
              · exact ⟨h1, h2⟩
            obtain ⟨rE, rQ⟩ := readE_slash s (by omega) j (by rw [data_len]; exact hj) HJS.out HNO.out m1 m2 p q v1 v2
            have HRE := hid rE
            have HRQ := hid rQ
            clear HP HQ m1 m2 v1 v2 rE rQ
            by_cases hq0 : q = 0
            · have hk0 : k2 = 0 := by rw [hq0] at HI2; exact is_len0 HI2.out
              have HR11 := HRE.out
              rw [if_pos hq0] at HR11
              have HR := hid HR11
              clear HR11 HRE
              subst hk0
              go_wp2
              refine bodyPost_ret (v := .tuple #[(.agg #[.bool false, .slice none 0 0, .bool false, .slice none 0 0]), .int .i64 (11 : Nat)]) ?_ rfl (.inl ⟨by rw [HR.out]; omega, by rw [HR.out], below_fill4 hWF (Nat.le_refl _) _ _ _ _⟩)
              simp [results, Tryz.results7, go_sem, r0, r1, r2, r3]
            · have hk0 : ¬ k2 = 0 := by
                intro h
                subst h
                exact hq0 (is_len1 HI2.out)
              have hk2 : 0 < (k2 : Int) := by omega
              have HRE2 := HRE.out
              rw [if_neg hq0] at HRE2
              have HRE3 := hid HRE2
              have hd : ((k2 : Int) == 0) = false := by rw [beq_eq_false_iff_ne]; omega
              have HQ0 := hid hq0
              clear HRE2 HRE hq0
              go_wp2_with fail
              have hst : Below W4.heap.size W4 (W4.alloc (.cells #[.bool neg1, .slice ao1 k1 cap1, .bool neg2, .slice ao2 k2 cap2] 26)) := (Below.refl _ _).alloc (Nat.le_refl _) _
              have bZ : Box4 (W4.alloc (.cells #[.bool neg1, .slice ao1 k1 cap1, .bool neg2, .slice ao2 k2 cap2] 26)) W4.heap.size (.bool neg1) (.slice ao1 k1 cap1) (.bool neg2) (.slice ao2 k2 cap2) := Box4.new _ _ _ _ _ _ rfl
              have bY5 := bY.keep hst
              have bR5 := bR4.keep hst
              have hW5 := below_call hWF hst hWF.size
              have J1 := HI1b.out.below hst
              have J2 := HI2.out.below hst
              clear hst bY bX4 bR4 hWF HI1b HI2 r0 r1 r2 r3 rf rl x0 x1 xl y0 y1 yl
              generalize W4.alloc (.cells #[.bool neg1, .slice ao1 k1 cap1, .bool neg2, .slice ao2 k2 cap2] 26) = W5 at *
              have E : RE W5 W5.drew [(.agg #[.bool neg1, .slice ao1 k1 cap1], 300, p), (.agg #[.bool neg2, .slice ao2 k2 cap2], 300, q)] [(.agg #[.bool neg1, .slice ao1 k1 cap1], 300, p), (.agg #[.bool neg2, .slice ao2 k2 cap2], 300, q)] [] [] := (((RE.none W5).knowI J2).knowI J1).drew
              clear J1 J2
              obtain ⟨b3, hb3⟩ : ∃ b3, b3 = decide (0 < q ∧ Nat.gcd p.natAbs q.natAbs = 1) := ⟨_, rfl⟩
              obtain ⟨b4, hb4⟩ : ∃ b4, decide (q = 1) = b4 := ⟨_, rfl⟩
              have hx : readE s = (if (b3 && !b4) = true then 0 else 4) := by
                rw [HRE3.out, hb3, ← hb4]
                have hc : (0 < q ∧ Nat.gcd p.natAbs q.natAbs = 1 ∧ q ≠ 1) ↔ ((decide (0 < q ∧ Nat.gcd p.natAbs q.natAbs = 1) && !decide (q = 1)) = true) := by simp [and_assoc]
                by_cases hh : 0 < q ∧ Nat.gcd p.natAbs q.natAbs = 1 ∧ q ≠ 1
                · rw [if_pos hh, if_pos (hc.1 hh)]
                · rw [if_neg hh, if_neg (fun h => hh (hc.2 h))]
              have HX := hid hx
              have HB3 := hid hb3
              have HB4 := hid hb4
              clear hb3 hb4 hx HRE3
              cases b3
              · have HR4 := hid (show readE s = 4 from HX.out)
                obtain ⟨z0, z1, z2, z3⟩ := (bZ.keep E.bl).c
                obtain ⟨y0, y1⟩ := keepB bY5 E.bl
                clear HX HRQ
                refine wp_region_any (by kernel_rfl) ?_
                (try (change wpAny _ _ _ _ _ _ _ (World.drew _)))
                refine wpAny_ready (rs := [0]) (by kernel_rfl) (by simp) ?_
                refine AllReady.cons rfl (fun K hK => ?_) AllReady.nil
                go_simp
                go_wp2_with fail
                refine wpAny_ready (rs := [1]) (by kernel_rfl) (by simp) ?_
                refine AllReady.cons rfl (fun K hK => ?_) AllReady.nil
                go_simp
                go_wp2_with (go_at_call 19; refine (re_rmay E (List.Mem.head _) (List.Mem.tail _ (List.Mem.head _)) HQ0.out _ HB3.out).mono ?_; rintro e wn ⟨rfl, En⟩; clear E; have E := En; clear En)
                refine wpAny_take (i := 2) (v := ?_) rfl (by kernel_rfl) (by kernel_rfl) (by kernel_rfl) (fun _ _ _ h => h) (Or.inl ⟨by rfl, ?_⟩) ?_
                rotate_left
                · intro w; go_simp; try with_reducible rfl
                refine wpAny_take (i := 3) (v := ?_) rfl (by kernel_rfl) (by kernel_rfl) (by kernel_rfl) (fun _ _ _ h => h) (Or.inl ⟨by rfl, ?_⟩) ?_
                rotate_left
                · intro w; go_simp; try with_reducible rfl
                simp only [Act.put]
                refine any_skip (i := 4) rfl (fun _ _ _ h => h) (by kernel_rfl) (by kernel_rfl) (by kernel_rfl) (by rfl) (by rfl) ?_
                refine any_skip (i := 5) rfl (fun _ _ _ h => h) (by kernel_rfl) (by kernel_rfl) (by kernel_rfl) (by rfl) (by rfl) ?_
                refine any_skip (i := 6) rfl (fun _ _ _ h => h) (by kernel_rfl) (by kernel_rfl) (by kernel_rfl) (by rfl) (by rfl) ?_
                refine wpAny_take (i := 7) (v := ?_) rfl (by kernel_rfl) (by kernel_rfl) (by kernel_rfl) (fun _ _ _ h => h) (Or.inl ⟨by rfl, ?_⟩) ?_
                rotate_left
                · intro w; go_simp; try with_reducible rfl
                refine wpAny_done (by kernel_rfl) ?_ _
                go_simp
                all_goals
                  have hWF := below_call hW5 E.bl hW5.size
                  have bR6 := bR5.keep E.bl
                  clear z0 z1 z2 z3 y0 y1
                  obtain ⟨r0, r1, r2, r3⟩ := bR6.c
                  have rf := bR6.f
                  have rl := bR6.lt
                  clear E bR6 bZ bR5 hW5
                  (go_wp2; (refine bodyPost_ret (v := .tuple #[(.agg #[.bool false, .slice none 0 0, .bool false, .slice none 0 0]), .int .i64 (4 : Nat)]) ?_ rfl (.inl ⟨by rw [HR4.out]; omega, by rw [HR4.out], below_fill4 hWF (Nat.le_refl _) _ _ _ _⟩)); simp [results, Tryz.results7, go_sem, r0, r1, r2, r3])
              · cases b4
                all_goals
                  (first | go_region_held3 (fun W' => W'.cell? ⟨W4.heap.size, 0, none⟩ = some (.bool neg1) ∧ W'.cell? ⟨W4.heap.size, 1, none⟩ = some (.slice ao1 k1 cap1) ∧ W'.cell? ⟨W4.heap.size, 2, none⟩ = some (.bool neg2) ∧ W'.cell? ⟨W4.heap.size, 3, none⟩ = some (.slice ao2 k2 cap2) ∧ W'.cell? ⟨w3.heap.size, 0, none⟩ = some (.bool neg2) ∧ W'.cell? ⟨w3.heap.size, 1, none⟩ = some (.slice ao2 k2 cap2)) (with_reducible exact keep42 bZ bY5 E.bl) (first
                    | (go_at_call 19; go_must (refine (re_rmay E (List.Mem.head _) (List.Mem.tail _ (List.Mem.head _)) HQ0.out _ HB3.out).mono ?_); rintro e wn ⟨rfl, En⟩; clear E; have E := En; clear En)
                    | (go_at_call 13; go_must (refine (re_rof E 1 (by omega) (by omega)).mono ?_); rintro e wn ⟨nn, an, kn, cn, rfl, En⟩; clear E; have E := En; clear En)
                    | (go_at_call 14; go_must (refine (re_same E (List.Mem.tail _ (List.Mem.tail _ (List.Mem.head _))) (List.Mem.head _)).mono ?_); rintro e wn ⟨rfl, En⟩; rw [HB4.out]; clear E; have E := En; clear En)) | fail)
                  have hWF := below_call hW5 E.bl hW5.size
                  have bR6 := bR5.keep E.bl
                  have bZ6 := bZ.keep E.bl
                  obtain ⟨r0, r1, r2, r3⟩ := bR6.c
                  have rf := bR6.f
                  have rl := bR6.lt
                  obtain ⟨z0, z1, z2, z3⟩ := bZ6.c
                  first
                  | (have HR4 := hid (show readE s = 4 from HX.out); clear HX E bR6 bZ6 bZ bR5 hW5; (go_wp2; (refine bodyPost_ret (v := .tuple #[(.agg #[.bool false, .slice none 0 0, .bool false, .slice none 0 0]), .int .i64 (4 : Nat)]) ?_ rfl (.inl ⟨by rw [HR4.out]; omega, by rw [HR4.out], below_fill4 hWF (Nat.le_refl _) _ _ _ _⟩)); simp [results, Tryz.results7, go_sem, r0, r1, r2, r3]))
                  | (have I1 : Is wn 0 (.agg #[.bool neg1, .slice ao1 k1 cap1]) 20000 p := (E.i _ (List.Mem.tail _ (List.Mem.head _))).mono (Nat.le_refl _) (show 300 ≤ 20000 by omega)
                     have I2 : Is wn 0 (.agg #[.bool neg2, .slice ao2 k2 cap2]) 20000 q := (E.i _ (List.Mem.tail _ (List.Mem.tail _ (List.Mem.head _)))).mono (Nat.le_refl _) (show 300 ≤ 20000 by omega)
                     have hf := of_decide_eq_true HB3.out.symm
                     have HJ := hid ((ris_mk I1 I2 hf.1 hf.2).off4 bR6 (grow4 _ w.heap.size (.bool neg1) (.slice ao1 k1 cap1) (.bool neg2) (.slice ao2 k2 cap2)))
                     have HW := hid (below_fill4 hWF (Nat.le_refl _) (.bool neg1) (.slice ao1 k1 cap1) (.bool neg2) (.slice ao2 k2 cap2))
                     have HE0 := hid (show readE s = 0 from HX.out)
                     clear I1 I2 hf HX E bR6 bZ6 bZ bR5 hW5 hWF
                     go_wp2
                     refine bodyPost_ret (v := .tuple #[.agg #[.bool neg1, .slice ao1 k1 cap1, .bool neg2, .slice ao2 k2 cap2], .int .i64 0]) ?_ rfl (.inr ⟨HE0.out, neg1, ao1, k1, cap1, neg2, ao2, k2, cap2, rfl, by rw [HRQ.out]; exact HJ.out, HW.out⟩)
                     simp [results, Tryz.results7, go_sem, r0, r1, r2, r3])
          · have HR4 := hid (readE_bad s (by omega) j (by rw [data_len]; exact hj) HJS.out HNO.out (by
              rcases HP.out with ⟨-, h1⟩ | ⟨h1, -⟩
              · exact .inl h1
              · rcases HQ.out with ⟨-, h2⟩ | ⟨h2, -⟩
                · exact .inr h2
                · exact absurd ⟨h1, h2⟩ hbb))
            obtain rfl | ⟨rfl, rfl⟩ : b1 = false ∨ (b1 = true ∧ b2 = false) := by
              cases b1
              · exact .inl rfl
              · cases b2
                · exact .inr ⟨rfl, rfl⟩
                · exact absurd ⟨rfl, rfl⟩ hbb
            all_goals
              clear hbb
              go_upto_if 65 with fail
              clear HP HQ
              generalize w3.alloc (.cells #[.bool neg2, .slice ao2 k2 cap2] 24) = W4 at *
              obtain ⟨r0, r1, r2, r3⟩ := bR4.c
              have rf := bR4.f
              have rl := bR4.lt
              (go_wp2; (refine bodyPost_ret (v := .tuple #[(.agg #[.bool false, .slice none 0 0, .bool false, .slice none 0 0]), .int .i64 (4 : Nat)]) ?_ rfl (.inl ⟨by rw [HR4.out]; omega, by rw [HR4.out], below_fill4 hWF (Nat.le_refl _) _ _ _ _⟩)); simp [results, Tryz.results7, go_sem, r0, r1, r2, r3])
end Go.Proofs.YtogdchddmjokmaaGreatDoor
