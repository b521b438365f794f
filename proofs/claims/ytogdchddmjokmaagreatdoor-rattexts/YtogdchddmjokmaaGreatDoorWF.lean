/-
  Walks: Cmp, Neg.
  Walks: what divides both, of limbs.
  Walks: Gcd.
  What a law knows from call to call: quotients, what divides both; boxes that are laid and filled.
  Plain mathematics of decimal digits: reading them, the highest first.
  Walks: texts of digits.
  Walks: the limbs of digits.
  Walks: Read.
  What a law knows from call to call: texts, and what is read of them.
-/
import Derived.Test.YtogdchddmjokmaaGreatDoorWC
import Derived.Test.YtogdchddmjokmaaGreatDoorWE
import Derived.Test.YtogdchddmjokmaaGreatDoorWD
import Derived.Test.YtogdchddmjokmaaGreatDoorWB

namespace Go.Proofs.YtogdchddmjokmaaGreatDoor
open Go.RowKit Lm
set_option linter.unusedSimpArgs false
set_option linter.unusedVariables false
set_option maxRecDepth 100000

theorem cmp_sgn (na nb : Bool) (A B : List Nat) (ha : mayB na A = true) (hb : mayB nb B = true) :
    cmpI (sgn na (val A)) (sgn nb (val B)) = if na = true ∧ nb = true then cmpI (val B : Int) (val A : Int) else if na = true then -1 else if nb = true then 1 else cmpI (val A : Int) (val B : Int) := by
  have pos : ∀ l : List Nat, mayB true l = true → 0 < val l := by
    intro l h
    by_cases h0 : l.length = 0
    · simp [mayB, h0] at h
    · have h1 := canon_pos (may_canon h) (by intro e; subst e; simp at h0)
      have h2 := pw_pos (l.length - 1)
      omega
  cases na <;> cases nb <;> simp [sgn]
  · have := pos B hb
    exact cmpI_gt (by omega)
  · have := pos A ha
    exact cmpI_lt (by omega)
  · unfold cmpI
    by_cases h1 : (val B : Int) < val A
    · rw [if_pos (by omega), if_pos h1]
    · by_cases h2 : (val A : Int) < val B
      · rw [if_neg (by omega), if_pos (by omega), if_neg h1, if_pos h2]
      · rw [if_neg (by omega), if_neg (by omega), if_neg h1, if_neg h2]

set_option maxHeartbeats 3200000 in
theorem cmp_num (w : World) (u v : Value) (n m : Nat) (x y : Int) (hx : Arg w u n x) (hy : Arg w v m y) :
    Calls Tryz.prog 44 #[u, v] w fun e w' => e = .returned (.int .i64 (cmpI x y)) ∧ Below w.heap.size w w' := by
  have HX := hid hx
  have HY := hid hy
  obtain ⟨n1, s1, l1, rfl, -⟩ := hx
  obtain ⟨n2, s2, l2, rfl, -⟩ := hy
  go_enter Tryz.func44, Tryz.ntmps44
  go_wp2
  go_cut [] (fun wc => ∃ neg1 ao1 cap1 l1 neg2 ao2 cap2 l2, Boxed2 w (w.heap.size + 2) n m x y wc neg1 ao1 cap1 l1 neg2 ao2 cap2 l2)
  case first =>
    go_region_with (first | (go_at_call_of 45 (Value.agg #[Value.bool n1, s1]); refine (counted_h w _ _ n x HX.out ?_).mono ?_; (exact (by repeat (first | exact Below.refl _ _ | refine Below.alloc ?_ ?_ _ | refine Below.setCell ?_ ?_ _ | refine Below.drew ?_ | refine below_drewN ?_ _ | (· simp) | omega | (· simp; omega) | exact Below.size (by assumption) | assumption | refine below_call ?_ (by assumption) ?_))); rintro e w1 ⟨neg1, ao1, cap1, k1, l1, rfl, HK1, HC1, hb1⟩; obtain ⟨hc1, hf1⟩ := bcell hb1; simp only [asize, dsize] at hc1 hf1) | (go_at_call_of 45 (Value.agg #[Value.bool n2, s2]); refine (counted_h w _ _ m y HY.out ?_).mono ?_; (exact (by repeat (first | exact Below.refl _ _ | refine Below.alloc ?_ ?_ _ | refine Below.setCell ?_ ?_ _ | refine Below.drew ?_ | refine below_drewN ?_ _ | (· simp) | omega | (· simp; omega) | exact Below.size (by assumption) | assumption | refine below_call ?_ (by assumption) ?_))); rintro e w2 ⟨neg2, ao2, cap2, k2, l2, rfl, HK2, HC2, hb2⟩; have hW2 := below_call hb1 hb2 hb1.size; obtain ⟨hc2, hf2⟩ := bcell hW2; simp only [asize, dsize] at hc2 hf2))
    all_goals (go_wp2_with fail; go_meet; exact ⟨neg1, ao1, cap1, _, neg2, ao2, cap2, _, boxed2_mk HK1 HC1 HK2 HC2 (laid2 w n1 s1 n2 s2).1 (laid2 w n1 s1 n2 s2).2.1 (laid2 w n1 s1 n2 s2).2.2.1 (laid2 w n1 s1 n2 s2).2.2.2.1 (laid2 w n1 s1 n2 s2).2.2.2.2 (below_undrew hW2)⟩)
  case rest =>
    obtain ⟨neg1, ao1, cap1, l1, neg2, ao2, cap2, l2, HB⟩ := hcut
    have HB' := hid HB
    have a0 := HB.b1.c0
    have a1 := HB.b1.c1
    have b0 := HB.b2.c0
    have b1 := HB.b2.c1
    have HC := hid (cmp_sgn neg1 neg2 l1 l2 HB.c1.2.2.1 HB.c2.2.2.1)
    have hbl := HB.bl
    have HZ : Hid (cmpI x y = cmpI (sgn neg1 (val l1)) (sgn neg2 (val l2))) := hid (by rw [HB.c1.2.2.2, HB.c2.2.2.2])
    clear HB
    cases neg1 <;> cases neg2
    · go_wp2_with fail
      refine (cmpLimbs_any _ ao1 cap1 l1 ao2 cap2 l2 (by exact HB'.out.c1.1.below hbl) (by exact HB'.out.c2.1.below hbl) (may_canon HB'.out.c1.2.2.1) (may_canon HB'.out.c2.2.2.1)).mono ?_
      rintro e w3 ⟨rfl, hb3⟩
      clear a0 a1 b0 b1
      go_wp2
      go_ret
      exact ⟨ret_int (by rw [HZ.out, HC.out]; simp), below_call hbl hb3 hbl.size⟩
    · go_wp2
      go_ret
      exact ⟨ret_int (by rw [HZ.out, HC.out]; simp), hbl⟩
    · go_wp2
      go_ret
      exact ⟨ret_int (by rw [HZ.out, HC.out]; simp), hbl⟩
    · go_wp2_with fail
      refine (cmpLimbs_any _ ao2 cap2 l2 ao1 cap1 l1 (by exact HB'.out.c2.1.below hbl) (by exact HB'.out.c1.1.below hbl) (may_canon HB'.out.c2.2.2.1) (may_canon HB'.out.c1.2.2.1)).mono ?_
      rintro e w3 ⟨rfl, hb3⟩
      clear a0 a1 b0 b1
      go_wp2
      go_ret
      exact ⟨ret_int (by rw [HZ.out, HC.out]; simp), below_call hbl hb3 hbl.size⟩

theorem copied_k (w : World) (ao : Option Addr) (cap k : Nat) (l : List Nat) (hk : k = l.length) (h : SlAt w ao cap l) (hl : l.length ≤ 1000000) :
    Calls Tryz.prog 61 #[.slice ao k cap] w fun e w' => e = .returned (.slice (some ⟨w.heap.size, 0, none⟩) k k) ∧ SlAt w' (some ⟨w.heap.size, 0, none⟩) k l ∧ Below w.heap.size w w' := by
  subst hk
  refine (copied_any w ao cap l h hl).mono ?_
  rintro e w' ⟨rfl, hr, hb⟩
  exact ⟨rfl, hr.whole h.1 (by omega), hb⟩

set_option maxHeartbeats 3200000 in
theorem neg_num (w : World) (u : Value) (n : Nat) (x : Int) (hx : Arg w u n x) (hn : n ≤ 1000000) :
    Calls Tryz.prog 36 #[u] w (Told w.heap.size n (-x) w) := by
  have HX := hid hx
  obtain ⟨n1, s1, l1, rfl, -⟩ := hx
  go_enter Tryz.func36, Tryz.ntmps36
  go_wp2_with fail
  refine (counted_h w _ _ n x HX.out (by repeat (first | exact Below.refl _ _ | refine Below.alloc ?_ ?_ _ | refine Below.setCell ?_ ?_ _ | refine Below.drew ?_ | refine below_drewN ?_ _ | (· simp) | omega | (· simp; omega) | exact Below.size (by assumption) | assumption | refine below_call ?_ (by assumption) ?_))).mono ?_
  rintro e w1 ⟨neg, ao, cap, k, l, rfl, HK, HC, hb1⟩
  have bA := (((Box.new w (.bool n1) s1 w.heap.size rfl).alloc (.cells #[.bool false, .slice none 0 0] 24)).keep hb1)
  have bR := ((Box.new (w.alloc (.cells #[.bool n1, s1] 24)) (.bool false) (.slice none 0 0) (w.heap.size + 1) (by simp)).keep hb1)
  have x0 := bA.c0
  have x1 := bA.c1
  have xf := bA.f
  have bA2 : Box ((w1.setCell ⟨w.heap.size, 0, none⟩ (.bool neg)).setCell ⟨w.heap.size, 1, none⟩ (.slice ao k cap)) w.heap.size (.bool neg) (.slice ao k cap) := (bA.set0 _).set1 _
  have bR2 : Box ((w1.setCell ⟨w.heap.size, 0, none⟩ (.bool neg)).setCell ⟨w.heap.size, 1, none⟩ (.slice ao k cap)) (w.heap.size + 1) (.bool false) (.slice none 0 0) := (bR.other (by simp) _).other (by simp) _
  have hW2 : Below w.heap.size w ((w1.setCell ⟨w.heap.size, 0, none⟩ (.bool neg)).setCell ⟨w.heap.size, 1, none⟩ (.slice ao k cap)) := (by repeat (first | exact Below.refl _ _ | refine Below.alloc ?_ ?_ _ | refine Below.setCell ?_ ?_ _ | refine Below.drew ?_ | refine below_drewN ?_ _ | (· simp) | omega | (· simp; omega) | exact Below.size (by assumption) | assumption | refine below_call ?_ (by assumption) ?_))
  clear bA bR hb1
  go_wp2_with fail
  clear x0 x1 xf
  generalize ((w1.setCell ⟨w.heap.size, 0, none⟩ (.bool neg)).setCell ⟨w.heap.size, 1, none⟩ (.slice ao k cap)) = v1 at *
  have y0 := bA2.c0
  have y1 := bA2.c1
  have HB2 := hid bR2
  have HA2 := hid bA2
  have hz := bR2.lt
  clear bA2 bR2
  go_region_held3 (fun w' => (w'.cell? ⟨w.heap.size, 0, none⟩ = some (.bool neg) ∧ w'.cell? ⟨w.heap.size, 1, none⟩ = some (.slice ao k cap))) (refine ⟨?_, ?_⟩ <;> repeat (first | with_reducible exact z40 | with_reducible exact z41 | with_reducible exact z30 | with_reducible exact z31 | with_reducible refine cell_far ?_ ?_ | with_reducible refine cell_drew ?_ | with_reducible exact y0 | with_reducible exact y1 | (· simp) | (· simp; omega))) (first
    | (go_at_call 61; go_must (refine (copied_k _ ao cap k l HK.out (by exact (HC.1.below hW2).drew) (by have := HC.2.1; omega)).mono ?_); rintro e w3 ⟨rfl, hr3, hb3⟩; have b3 := HA2.out.drew.keep hb3; have z30 := b3.c0; have z31 := b3.c1; have HA3 := hid b3; have HB3 := hid (HB2.out.drew.keep hb3); have hz3 := hb3.size; simp only [dsize] at hz3; clear b3)
    | (go_at_call 53; go_must (refine (made_k _ (w.heap.size + 1 + 1) _ _ k k l HK.out (by exact hr3) (from_row _ _ _ (by first | omega | (simp only [dsize]; omega)))).mono ?_); rintro e w4 ⟨nr, ar, kr, cr, rfl, HI, hb4⟩; have b4 := HA3.out.keep hb4; have z40 := b4.c0; have z41 := b4.c1; have b5 := HB3.out.keep hb4; have r0 := b5.c0; have r1 := b5.c1; have rf := b5.f; clear b4 b5))
  have HZ : Hid (-x = sgn (!neg) (val l)) := hid (by rw [HC.2.2.2]; cases neg <;> simp [sgn])
  have hW4 : Below w.heap.size w w4 := below_call (below_call hW2.drew hb3 (by rw [dsize]; exact hW2.size)) hb4 (by omega)
  have hl := HC.2.1
  clear hb3 hb4 z30 z31 z40 z41 y0 y1 hr3
  go_wp2
  refine bodyPost_ret (v := .agg #[.bool nr, .slice ar kr cr]) ?_ rfl ⟨nr, ar, kr, cr, rfl, ?_, (by repeat (first | exact Below.refl _ _ | refine Below.alloc ?_ ?_ _ | refine Below.setCell ?_ ?_ _ | refine Below.drew ?_ | refine below_drewN ?_ _ | (· simp) | omega | (· simp; omega) | exact Below.size (by assumption) | assumption | refine below_call ?_ (by assumption) ?_))⟩
  · simp [results, Tryz.results36, go_sem, r0, r1]
  · rw [HZ.out]
    exact ((HI.out.setCell (by simp) _).setCell (by simp) _).mono (by omega) hl

end Go.Proofs.YtogdchddmjokmaaGreatDoor

namespace Go.Proofs.YtogdchddmjokmaaGreatDoor
open Go.RowKit Lm
set_option linter.unusedSimpArgs false
set_option linter.unusedVariables false
set_option maxRecDepth 100000

theorem gcd_step (a b : Nat) : Nat.gcd b (a % b) = Nat.gcd a b := by
  rw [Nat.gcd_comm b (a % b), ← Nat.gcd_rec, Nat.gcd_comm]
theorem gcd_le_max {a b N : Nat} (ha : a < N) (hb : b < N) (h : 0 < a ∨ 0 < b) : Nat.gcd a b < N := by
  rcases h with h | h
  · exact Nat.lt_of_le_of_lt (Nat.gcd_le_left _ h) ha
  · exact Nat.lt_of_le_of_lt (Nat.gcd_le_right _ h) hb
theorem gcd_lt {a b N : Nat} (ha : a < N) (hb : b < N) : Nat.gcd a b < N := by
  by_cases h : 0 < a ∨ 0 < b
  · exact gcd_le_max ha hb h
  · have h1 : a = 0 := by omega
    have h2 : b = 0 := by omega
    subst h1 h2
    simpa using ha

def GWRel (w : World) (G : Nat) (av bv : Value) (wr : World) : Prop :=
  ∃ a b : Nat, av = .int .u64 (a : Int) ∧ bv = .int .u64 (b : Int) ∧ a < 18446744073709551616 ∧ b < 18446744073709551616 ∧ Hid (Nat.gcd a b = G) ∧ Below w.heap.size w wr

set_option maxHeartbeats 1600000 in
theorem gcdWords_any (w : World) (a b : Nat) (ha : a < 18446744073709551616) (hb : b < 18446744073709551616) :
    Calls Tryz.prog 85 #[.int .u64 (a : Int), .int .u64 (b : Int)] w fun e w' => e = .returned (.int .u64 ((Nat.gcd a b : Nat) : Int)) ∧ Below w.heap.size w w' := by
  go_enter Tryz.func85, Tryz.ntmps85
  go_wp2
  go_loopw [0, 1] (fun av bv wr => GWRel w (Nat.gcd a b) av bv wr) (fun av bv wr => (intOf bv).toNat)
  case atStart => exact ⟨a, b, rfl, rfl, ha, hb, rfl, Below.refl _ _⟩
  case round =>
    obtain ⟨x, y, rfl, rfl, hx, hy, HG, hbw⟩ := hrel
    by_cases hy0 : y = 0
    · subst hy0
      have HX : Hid (x = Nat.gcd a b) := hid (by rw [← HG.out]; simp)
      go_wp2
      go_ret
      exact ⟨by rw [← HX.out]; rfl, hbw⟩
    · have hm := Nat.mod_lt x (show y > 0 by omega)
      have HM := hid hm
      clear hm
      go_wp2
      go_quiet (fail)
      go_wp2
      go_roundw
      case rel => exact ⟨y, x % y, by go_num, by rw [Int.natCast_emod], hy, Nat.lt_trans HM.out hy, hid (by rw [gcd_step]; exact HG.out), (by repeat (first | exact Below.refl _ _ | refine Below.alloc ?_ ?_ _ | refine Below.setCell ?_ ?_ _ | refine Below.drew ?_ | refine below_drewN ?_ _ | (· simp) | omega | (· simp; omega) | exact Below.size (by assumption) | assumption | refine below_call ?_ (by assumption) ?_))⟩
      case measure =>
        have := HM.out
        have e : (x : Int) % (y : Int) = ((x % y : Nat) : Int) := by rw [Int.natCast_emod]
        simp only [intOf, e]
        omega

/-- What stands at the head of a round of gcdLimbs. -/
def GLRel (W : World) (N G m : Nat) (av bv : Value) (wr : World) : Prop :=
  ∃ (ao : Option Addr) (ca ka : Nat) (la : List Nat) (bo : Option Addr) (cb kb : Nat) (lb : List Nat), av = .slice ao ka ca ∧ bv = .slice bo kb cb ∧ Hid (ka = la.length) ∧ Hid (kb = lb.length) ∧ m = val lb ∧ SlAt wr ao ca la ∧ SlAt wr bo cb lb ∧ canon la ∧ canon lb ∧ la.length ≤ N ∧ lb.length ≤ N ∧ Hid (Nat.gcd (val la) (val lb) = G) ∧ Below W.heap.size W wr

theorem wordOf_k (w : World) (ao : Option Addr) (cap k : Nat) (l : List Nat) (hk : k = l.length) (h : SlAt w ao cap l) (hl : l.length ≤ 2) :
    Calls Tryz.prog 86 #[.slice ao k cap] w fun e w' => e = .returned (.int .u64 (val l : Nat)) ∧ w' = w := by
  subst hk
  exact wordOf_any w ao cap l h hl
theorem divLimbs_k (N : Nat) (hN : N ≤ 999999) (W : World) (ao : Option Addr) (ca ka : Nat) (la : List Nat) (bo : Option Addr) (cb kb : Nat) (lb : List Nat) (hka : ka = la.length) (hkb : kb = lb.length) (ha : SlAt W ao ca la) (hb : SlAt W bo cb lb) (hca : canon la) (hcb : canon lb) (hne : lb.length ≠ 0) (hla : la.length ≤ N) (hlb : lb.length ≤ N) :
    Calls Tryz.prog 52 #[.slice ao ka ca, .slice bo kb cb] W (DivPost W la lb) := by
  subst hka hkb
  exact divSaid_all W ao ca la bo cb lb ha hb hca hcb hne (by omega) (by omega)
theorem trimmed_k (w : World) (ao : Option Addr) (cap k : Nat) (l : List Nat) (hk : k = l.length) (h : SlAt w ao cap l) :
    Calls Tryz.prog 66 #[.slice ao k cap] w fun e w' => ∃ n, e = .returned (.slice ao n cap) ∧ w' = w ∧ n ≤ l.length ∧ canon (l.take n) ∧ val (l.take n) = val l := by
  subst hk
  exact trimmed_any w ao cap l h
theorem len_of_lt {a b : List Nat} {N : Nat} (ca : canon a) (ob : ok b) (h : val a < val b) (hb : b.length ≤ N) : a.length ≤ N := by
  rcases Nat.lt_or_ge N a.length with h1 | h1
  · have h2 := canon_pos ca (by intro e; subst e; simp at h1)
    have h3 := val_lt ob
    have h4 := pw_mono (show b.length ≤ a.length - 1 by omega)
    omega
  · exact h1
theorem word_lt {l : List Nat} (hok : ok l) (hl : l.length ≤ 2) : val l < 18446744073709551616 := by
  have h1 := val_lt hok
  have h2 := pw_mono hl
  simp only [pw] at h2
  omega

set_option maxHeartbeats 3200000 in
theorem gcdLimbs_any (w : World) (ao : Option Addr) (ca ka : Nat) (la : List Nat) (bo : Option Addr) (cb kb : Nat) (lb : List Nat) (hka : ka = la.length) (hkb : kb = lb.length) (ha : SlAt w ao ca la) (hb : SlAt w bo cb lb) (hca : canon la) (hcb : canon lb) (N : Nat) (hN : N ≤ 999999) (hla : la.length ≤ N) (hlb : lb.length ≤ N) :
    Calls Tryz.prog 68 #[.slice ao ka ca, .slice bo kb cb] w (Made w (N + 2) (Nat.gcd (val la) (val lb))) := by
  go_enter Tryz.func68, Tryz.ntmps68
  go_wp2
  go_loopg [0, 1] (val lb) (fun m av bv wr => GLRel w N (Nat.gcd (val la) (val lb)) m av bv wr)
  case atStart => exact ⟨ao, ca, ka, la, bo, cb, kb, lb, rfl, rfl, hka, hkb, rfl, ha, hb, hca, hcb, hla, hlb, rfl, Below.refl _ _⟩
  case round =>
    obtain ⟨ao1, ca1, ka1, l1, bo1, cb1, kb1, l2, rfl, rfl, HK1, HK2, hgk, h1, h2, hc1, hc2, hl1, hl2, HG, hbw⟩ := hrel
    have HGK := hid hgk
    have hk1m : ka1 ≤ 9223372036854775807 := by have a := h1.2.1; have b := h1.2.2.1; have c := HK1.out; unfold maxLen at b; omega
    have hk2m : kb1 ≤ 9223372036854775807 := by have a := h2.2.1; have b := h2.2.2.1; have c := HK2.out; unfold maxLen at b; omega
    clear hgk
    by_cases hk0 : kb1 = 0
    · have HF : Hid (val l1 = Nat.gcd (val la) (val lb)) := hid (by
        rw [← HG.out, List.eq_nil_of_length_eq_zero (HK2.out.symm.trans hk0)]
        simp [val])
      rw [hk0]
      clear hk2m
      go_wp2_with fail
      refine (copied_k _ ao1 ca1 ka1 l1 HK1.out h1 (by omega)).mono ?_
      rintro e w2 ⟨rfl, hs2, hb2⟩
      have HM : Hid (Made w (N + 2) (Nat.gcd (val la) (val lb)) (.returned (.slice (some ⟨wr.heap.size, 0, none⟩) ka1 ka1)) w2) :=
        ⟨wr.heap.size, ka1, ka1, l1, rfl, HK1, hs2, hbw.size, by omega, HF.out, below_call hbw hb2 hbw.size⟩
      clear hs2 hb2
      go_wp2
      go_ret
      exact HM.out
    · by_cases hs : ka1 ≤ 2 ∧ kb1 ≤ 2
      · obtain ⟨hs1, hs2⟩ := hs
        have HW1 := hid (word_lt h1.1 (by rw [← HK1.out]; exact hs1))
        have HW2 := hid (word_lt h2.1 (by rw [← HK2.out]; exact hs2))
        go_wp2_with fail
        refine (wordOf_k _ ao1 ca1 ka1 l1 HK1.out h1 (by rw [← HK1.out]; exact hs1)).mono ?_
        rintro e w2 ⟨rfl, rfl⟩
        go_wp2_with fail
        refine (wordOf_k _ bo1 cb1 kb1 l2 HK2.out h2 (by rw [← HK2.out]; exact hs2)).mono ?_
        rintro e w3 ⟨rfl, rfl⟩
        go_wp2_with fail
        refine (gcdWords_any _ (val l1) (val l2) HW1.out HW2.out).mono ?_
        rintro e w4 ⟨rfl, hb4⟩
        have HGL := hid (gcd_lt HW1.out HW2.out)
        go_wp2_with fail
        refine (limbsOf_any _ (Nat.gcd (val l1) (val l2)) HGL.out).mono ?_
        rintro e w5 ⟨rfl, hr5, hb5⟩
        have HM : Hid (Made w (N + 2) (Nat.gcd (val la) (val lb)) (.returned (.slice (some ⟨w4.heap.size, 0, none⟩) 2 2)) w5) := by
          have hW4 := below_call hbw hb4 hbw.size
          refine ⟨w4.heap.size, 2, 2, [Nat.gcd (val l1) (val l2) % 4294967296, Nat.gcd (val l1) (val l2) / 4294967296], rfl, rfl, hr5.whole (ok_two HGL.out) (by simp), hW4.size, by simp, ?_, below_call hW4 hb5 hW4.size⟩
          rw [val_two]; exact HG.out
        clear hr5 hb5 hb4
        go_wp2
        go_ret
        exact HM.out
      · go_wp2_with fail
        all_goals
          refine (divLimbs_k N hN _ ao1 ca1 ka1 l1 bo1 cb1 kb1 l2 HK1.out HK2.out h1 h2 hc1 hc2 (by rw [← HK2.out]; exact hk0) hl1 hl2).mono ?_
          rintro e w2 ⟨qa, qn, qc, ra, rn, rc, q, r, rfl, hqn, hrn, hq, hfq, hr, hfr, hv, hlt, hql, hrl, hb2⟩
          have HRN := hid hrn
          have HLT := hid hlt
          have HMOD : Hid (val r = val l1 % val l2) := hid (by
            rw [hv, Nat.mul_comm, Nat.mul_add_mod, Nat.mod_eq_of_lt hlt])
          have hbr := h2.below hb2
          clear hqn hrn hq hfq hfr hv hql hrl hlt
          go_wp2_with fail
          refine (trimmed_k _ ra rc rn r HRN.out hr).mono ?_
          rintro e w3 ⟨n, rfl, rfl, hn, hcn, hvn⟩
          have HVN := hid hvn
          have hrt := hr.take n hn
          have HTL := hid (take_len hn)
          have HLE := hid (len_of_lt hcn h2.1 (by rw [hvn]; exact HLT.out) hl2)
          clear hvn
          go_wp2
          go_roundg (val (r.take n))
          case measure => rw [HVN.out, HGK.out]; exact HLT.out
          case rel =>
            exact ⟨bo1, cb1, kb1, l2, ra, rc, n, r.take n, rfl, rfl, HK2, HTL.out.symm, rfl, hbr, hrt, hc2, hcn, hl2, HLE.out, hid (by rw [HVN.out, HMOD.out, gcd_step]; exact HG.out), below_call hbw hb2 hbw.size⟩

end Go.Proofs.YtogdchddmjokmaaGreatDoor

namespace Go.Proofs.YtogdchddmjokmaaGreatDoor
open Go.RowKit Lm
set_option linter.unusedSimpArgs false
set_option linter.unusedVariables false
set_option maxRecDepth 100000

@[go_sem] theorem field_L (w : World) (a b : Value) : Sem.run Tryz.prog (Instr.field 24 (.agg #[a, b]) 1) w = .ok b w := by
  simp [Instr.field, go_sem, part, asAgg, isAgg]
@[go_sem] theorem field_Neg (w : World) (a b : Value) : Sem.run Tryz.prog (Instr.field 24 (.agg #[a, b]) 0) w = .ok a w := by
  simp [Instr.field, go_sem, part, asAgg, isAgg]
theorem sgn_nat (neg : Bool) (n : Nat) : (sgn neg n).natAbs = n := sgn_abs neg n

set_option maxHeartbeats 3200000 in
theorem gcd_num (w : World) (u v : Value) (n m : Nat) (x y : Int) (hx : Arg w u n x) (hy : Arg w v m y) (hn : n ≤ 400000) (hm : m ≤ 400000) :
    Calls Tryz.prog 51 #[u, v] w (Told w.heap.size (n + m + 2) ((Nat.gcd x.natAbs y.natAbs : Nat) : Int) w) := by
  have HX := hid hx
  have HY := hid hy
  obtain ⟨n1, s1, l1, rfl, -⟩ := hx
  obtain ⟨n2, s2, l2, rfl, -⟩ := hy
  go_enter Tryz.func51, Tryz.ntmps51
  go_wp2
  have hl := laid3 w n1 s1 n2 s2
  unfold Laid3 at hl
  generalize ((w.alloc (.cells #[.bool n1, s1] 24)).alloc (.cells #[.bool n2, s2] 24)).alloc (.cells #[.bool false, .slice none 0 0] 24) = W at *
  obtain ⟨hsz, b1, b2, b3, hbl⟩ := hl
  have a0 := b1.c0
  have a1 := b1.c1
  have c0 := b2.c0
  have c1 := b2.c1
  have HB1 := hid b1
  have HB2 := hid b2
  have HB3 := hid (b3 (w.heap.size + 1 + 1) (by omega) (by omega))
  clear b1 b2 b3
  go_region_held3 (fun w' => (w'.cell? ⟨w.heap.size, 0, none⟩ = some (.bool n1) ∧ w'.cell? ⟨w.heap.size, 1, none⟩ = some s1 ∧ w'.cell? ⟨w.heap.size + 1, 0, none⟩ = some (.bool n2) ∧ w'.cell? ⟨w.heap.size + 1, 1, none⟩ = some s2)) (refine ⟨?_, ?_, ?_, ?_⟩ <;> repeat (first | with_reducible exact a0 | with_reducible exact a1 | with_reducible exact c0 | with_reducible exact c1 | with_reducible refine cell_far ?_ ?_ | with_reducible refine cell_drew ?_ | (· simp) | (· simp; omega))) (first
    | (go_at_call_of 45 (Value.agg #[Value.bool n1, s1]); go_must (refine (counted_h w _ _ n x HX.out (by exact hbl.drew)).mono ?_); rintro e w1 ⟨neg1, ao1, cap1, k1, l1, rfl, HK1, HC1, hb1⟩; have bb1 := HB1.out.drew.keep hb1; have bb2 := HB2.out.drew.keep hb1; have bb3 := HB3.out.drew.keep hb1; have hW1 := below_call hbl.drew hb1 (by rw [dsize]; omega); have hz1 := hb1.size; simp only [dsize] at hz1; clear a0 a1 c0 c1; have a0 := bb1.c0; have a1 := bb1.c1; have c0 := bb2.c0; have c1 := bb2.c1; have HB11 := hid bb1; have HB21 := hid bb2; have HB31 := hid bb3; clear bb1 bb2 bb3 hb1)
    | (go_at_call_of 45 (Value.agg #[Value.bool n2, s2]); go_must (refine (counted_h w _ _ m y HY.out (by exact hW1)).mono ?_); rintro e w2 ⟨neg2, ao2, cap2, k2, l2, rfl, HK2, HC2, hb2⟩; have bb1 := HB11.out.keep hb2; have bb2 := HB21.out.keep hb2; have bb3 := HB31.out.keep hb2; have hW2 := below_call hW1 hb2 (by omega); have hz2 := hb2.size; clear a0 a1 c0 c1; have a0 := bb1.c0; have a1 := bb1.c1; have c0 := bb2.c0; have c1 := bb2.c1; have HB12 := hid bb1; have HB22 := hid bb2; have HB32 := hid bb3; clear bb1 bb2 bb3 hb2)
    | (go_at_call 68; go_must (refine (gcdLimbs_any _ ao1 cap1 k1 l1 ao2 cap2 k2 l2 HK1.out HK2.out (by exact HC1.1.below hW2) (by exact HC2.1.below hW2) (may_canon HC1.2.2.1) (may_canon HC2.2.2.1) (n + m) (by omega) (by have := HC1.2.1; omega) (by have := HC2.2.1; omega)).mono ?_); rintro e w3 ⟨g, cap, k, l, rfl, HK, hs, hg, hl, hv, hb3⟩; have HV := hid hv; have bb1 := HB12.out.keep hb3; have bb2 := HB22.out.keep hb3; have bb3 := HB32.out.keep hb3; have hW3 := below_call hW2 hb3 (by omega); have hz3 := hb3.size; clear a0 a1 c0 c1; have a0 := bb1.c0; have a1 := bb1.c1; have c0 := bb2.c0; have c1 := bb2.c1; have HB13 := hid bb1; have HB23 := hid bb2; have HB33 := hid bb3; clear bb1 bb2 bb3 hb3 hv)
    | (go_at_call 53; go_must (refine (made_k _ (w.heap.size + 3) _ _ cap k l HK.out (by exact hs) (from_row _ _ _ (by omega))).mono ?_); rintro e w4 ⟨nr, ar, kr, cr, rfl, HI, hb4⟩; have bb1 := HB13.out.keep hb4; have bb2 := HB23.out.keep hb4; have bb3 := HB33.out.keep hb4; have hW4 := below_call hW3 hb4 (by omega); clear a0 a1 c0 c1; have a0 := bb1.c0; have a1 := bb1.c1; have c0 := bb2.c0; have c1 := bb2.c1; have x0 := bb3.c0; have x1 := bb3.c1; have xf := bb3.f; clear bb1 bb2 bb3 hb4))
  have HZ : Hid (((Nat.gcd x.natAbs y.natAbs : Nat) : Int) = sgn false (val l)) := hid (by rw [HV.out, HC1.2.2.2, HC2.2.2.2, sgn_abs, sgn_abs]; simp [sgn])
  have hl1 := HC1.2.1
  have hl2 := HC2.2.1
  clear a0 a1 c0 c1 hs
  go_wp2
  refine bodyPost_ret (v := .agg #[.bool nr, .slice ar kr cr]) ?_ rfl ⟨nr, ar, kr, cr, rfl, ?_, (by repeat (first | exact Below.refl _ _ | refine Below.alloc ?_ ?_ _ | refine Below.setCell ?_ ?_ _ | refine Below.drew ?_ | refine below_drewN ?_ _ | (· simp) | omega | (· simp; omega) | exact Below.size (by assumption) | assumption | refine below_call ?_ (by assumption) ?_))⟩
  · simp [results, Tryz.results51, go_sem, x0, x1]
  · rw [HZ.out]
    exact ((HI.out.setCell (by show w.heap.size + 1 + 1 < _; omega) _).setCell (by show w.heap.size + 1 + 1 < _; omega) _).mono (by omega) (by omega)

/-- Div, by any number but nought. -/
theorem div_any (w : World) (u v : Value) (n m : Nat) (x y : Int) (hx : Arg w u n x) (hy : Arg w v m y) (hy0 : y ≠ 0) (hn : n ≤ 400000) (hm : m ≤ 400000) :
    Calls Tryz.prog 28 #[u, v] w (DivTold w n m x y) := by
  refine div_num 999999 999999 divSaid_all w u v n m x y hx hy hy0 (by omega) ?_
  obtain ⟨neg, sv, l, _, ⟨ao, cap, _, hs⟩, hl, hz⟩ := hy
  have h1 := val_lt hs.1
  have h2 := pw_mono (show l.length ≤ 999999 by omega)
  have h3 : y.natAbs ≤ val l := by
    rw [hz]; unfold mean
    split
    · rw [sgn_abs]; exact Nat.le_refl _
    · simp
  omega

end Go.Proofs.YtogdchddmjokmaaGreatDoor

namespace Go.Proofs.YtogdchddmjokmaaGreatDoor
open Go.RowKit Lm
set_option linter.unusedSimpArgs false
set_option linter.unusedVariables false
set_option maxRecDepth 100000

variable {W0 W W' : World} {B B' : List (Nat × Value × Value)} {KA KI : List (Value × Nat × Int)} {u v : Value} {n m : Nat} {x y : Int}

theorem env_cmp2 (E : Env W0 W B KA KI) (hu : (u, n, x) ∈ KA) (hv : (v, m, y) ∈ KA) : Calls Tryz.prog 44 #[u, v] W fun e w' => e = .returned (.int .i64 (cmpI x y)) ∧ Env W0 w' B KA KI := by
  refine (cmp_num W u v n m x y (E.a _ hu) (E.a _ hv)).mono ?_
  rintro e w' ⟨rfl, hb⟩
  exact ⟨rfl, E.step hb⟩
theorem cmpI_lo (x y : Int) : -1 ≤ cmpI x y := by unfold cmpI; split; omega; split <;> omega
theorem cmpI_hi (x y : Int) : cmpI x y ≤ 1 := by unfold cmpI; split; omega; split <;> omega
theorem env_gcd (E : Env W0 W B KA KI) (hu : (u, n, x) ∈ KA) (hv : (v, m, y) ∈ KA) (hn : n ≤ 400000) (hm : m ≤ 400000) : Calls Tryz.prog 51 #[u, v] W (Says W0 B KA KI (n + m + 2) ((Nat.gcd x.natAbs y.natAbs : Nat) : Int)) :=
  (gcd_num W u v n m x y (E.a _ hu) (E.a _ hv) hn hm).mono fun _ _ h => says_of E h
theorem env_ofCmp (E : Env W0 W B KA KI) (x y : Int) : Calls Tryz.prog 30 #[.int .i64 (cmpI x y)] W (Says W0 B KA KI 2 (cmpI x y)) :=
  env_of E _ (by have := cmpI_lo x y; omega) (by have := cmpI_hi x y; omega)

/-- A quotient and its rest have been told. -/
def Says2 (W0 : World) (B : List (Nat × Value × Value)) (KA KI : List (Value × Nat × Int)) (n m : Nat) (x y : Int) (e : Ending) (w' : World) : Prop :=
  ∃ nq aq kq cq nr ar kr cr, e = .returned (.tuple #[.agg #[.bool nq, .slice aq kq cq], .agg #[.bool nr, .slice ar kr cr], .int .i64 0]) ∧
    Env W0 w' B ((.agg #[.bool nq, .slice aq kq cq], n, x.tdiv y) :: (.agg #[.bool nr, .slice ar kr cr], n + m, x.tmod y) :: KA) ((.agg #[.bool nq, .slice aq kq cq], n, x.tdiv y) :: (.agg #[.bool nr, .slice ar kr cr], n + m, x.tmod y) :: KI)
theorem env_div (E : Env W0 W B KA KI) (hu : (u, n, x) ∈ KA) (hv : (v, m, y) ∈ KA) (hy : y ≠ 0) (hn : n ≤ 400000) (hm : m ≤ 400000) : Calls Tryz.prog 28 #[u, v] W (Says2 W0 B KA KI n m x y) := by
  refine (div_any W u v n m x y (E.a _ hu) (E.a _ hv) hy hn hm).mono ?_
  rintro e w' ⟨nq, aq, kq, cq, nr, ar, kr, cr, rfl, hq, hr, hb⟩
  exact ⟨nq, aq, kq, cq, nr, ar, kr, cr, rfl, (E.next hb hr).next (Below.refl _ _) hq⟩
theorem env_divz (E : Env W0 W B KA KI) (hu : (u, n, x) ∈ KA) (hv : (v, m, y) ∈ KA) (hy : y = 0) : Calls Tryz.prog 28 #[u, v] W fun e w' => e = .returned (.tuple #[.agg #[.bool false, .slice none 0 0], .agg #[.bool false, .slice none 0 0], .int .i64 1]) ∧ Env W0 w' B KA KI := by
  refine (div_zero W u v n m x y (E.a _ hu) (E.a _ hv) hy).mono ?_
  rintro e w' ⟨rfl, hb⟩
  exact ⟨rfl, E.step hb⟩
theorem is_zero (W : World) : Is W 0 (.agg #[.bool false, .slice none 0 0]) 0 0 :=
  ⟨false, none, 0, [], rfl, ⟨ok_nil, by simp, by unfold maxLen; omega, .inl ⟨rfl, fun _ => rfl⟩⟩, (by intro ad e; simp at e), by simp, rfl, by simp [sgn, val]⟩
theorem Env.zero (E : Env W0 W B KA KI) : Env W0 W B ((.agg #[.bool false, .slice none 0 0], 0, 0) :: KA) ((.agg #[.bool false, .slice none 0 0], 0, 0) :: KI) :=
  E.next (Below.refl _ _) (is_zero W)

/-- A box that is told by its cells: no limbs lie in it. -/
theorem SlAt.offBox {ao : Option Addr} {cap g k c i : Nat} {l : List Nat} {a : Option Addr} {b : Bool} (h : SlAt W ao cap l) (hg : Box W g (.bool b) (.slice a k c)) (z : Value) : SlAt (W.setCell ⟨g, i, none⟩ z) ao cap l := by
  obtain ⟨h1, h2, h3, h4⟩ := h
  refine ⟨h1, h2, h3, ?_⟩
  rcases h4 with h4 | ⟨b', off, e, hlt, hc⟩
  · exact .inl h4
  · by_cases h0 : l.length = 0
    · exact .inl ⟨h0, fun h => by rw [e] at h; simp at h⟩
    · have hne : b' ≠ g := by
        intro h
        subst h
        have h5 := hc 0 (by omega)
        rw [cell_of_row W b' (off + 0) #[.bool b, .slice a k c] 24 (0, 0) hg] at h5
        rcases (show off = 0 ∨ off = 1 ∨ 2 ≤ off by omega) with rfl | rfl | h6
        · simp at h5
        · simp at h5
        · rw [Array.getElem?_eq_none (by simp; omega)] at h5
          simp at h5
      refine .inr ⟨b', off, e, by simpa [World.setCell] using hlt, fun i' hi => ?_⟩
      rw [World.cell?_of_block (w := W) (a := ⟨b', off + i', none⟩) (heap_setCell_other W ⟨g, i, none⟩ b' z hne)]
      exact hc i' hi
theorem Env.store {g k c i : Nat} {a : Option Addr} {b : Bool} (E : Env W0 W B KA KI) (hg : Box W g (.bool b) (.slice a k c)) (hd : ∀ p ∈ B, p.1 ≠ g) (h0 : W0.heap.size ≤ g) (z : Value) : Env W0 (W.setCell ⟨g, i, none⟩ z) B KA KI := by
  refine ⟨fun p hp => (E.bx p hp).other (hd p hp) z, fun p hp => ?_, fun p hp => ?_, E.bl.setCell h0 z⟩
  · obtain ⟨neg, sv, l, hv, ⟨ao, cap, e, hs⟩, hr⟩ := E.a p hp
    exact ⟨neg, sv, l, hv, ⟨ao, cap, e, hs.offBox hg z⟩, hr⟩
  · obtain ⟨neg, ao, cap, l, hv, hs, hr⟩ := E.i p hp
    exact ⟨neg, ao, cap, l, hv, hs.offBox hg z, hr⟩
theorem Env.with {g : Nat} (E : Env W0 W B KA KI) (hg : Box W g u v) : Env W0 W ((g, u, v) :: B) KA KI := by
  refine ⟨fun p hp => ?_, E.a, E.i, E.bl⟩
  rcases List.mem_cons.1 hp with rfl | h
  · exact hg
  · exact E.bx p h
theorem Env.b1 {g : Nat} {p q : Value} (E : Env W0 W ((g, p, q) :: B) KA KI) : Box W g p q := E.bx _ (List.Mem.head _)
theorem Env.b2 {g g' : Nat} {p q p' q' : Value} (E : Env W0 W ((g', p', q') :: (g, p, q) :: B) KA KI) : Box W g p q := E.bx _ (List.Mem.tail _ (List.Mem.head _))
theorem Env.bm {g : Nat} {p q : Value} (E : Env W0 W B KA KI) (h : (g, p, q) ∈ B) : Box W g p q := E.bx _ h
theorem is_len0 {lo k c : Nat} {b : Bool} {a : Option Addr} (h : Is W lo (.agg #[.bool b, .slice a k c]) n 0) : k = 0 := by
  obtain ⟨neg, ao, cap, l, e, hs, _, _, hm, hz⟩ := h
  have h1 : val l = 0 := by have := sgn_abs neg (val l); rw [← hz] at this; simpa using this.symm
  have h2 := val_eq_zero (may_canon hm) h1
  subst h2
  simp at e
  exact e.2.2.1
theorem Env.fresh (E : Env W0 W B KA KI) : ∀ p ∈ B, p.1 ≠ W.heap.size := fun p hp => Nat.ne_of_lt (E.bx p hp).lt
theorem Env.lts (E : Env W0 W B KA KI) : ∀ p ∈ B, p.1 < W.heap.size := fun p hp => (E.bx p hp).lt
theorem Env.sub (E : Env W0 W B KA KI) (h : ∀ p ∈ B', p ∈ B) : Env W0 W B' KA KI := ⟨fun p hp => E.bx p (h p hp), E.a, E.i, E.bl⟩
/-- Two cells of a box are filled. -/
theorem Env.fill {g k c : Nat} {a : Option Addr} {b b' : Bool} {s' : Value} {a' : Option Addr} {k' c' : Nat} (E : Env W0 W B KA KI) (hg : Box W g (.bool b) (.slice a k c)) (hd : ∀ p ∈ B, p.1 ≠ g) (h0 : W0.heap.size ≤ g) : Env W0 ((W.setCell ⟨g, 0, none⟩ (.bool b')).setCell ⟨g, 1, none⟩ (.slice a' k' c')) ((g, .bool b', .slice a' k' c') :: B) KA KI :=
  ((E.store hg hd h0 _).store (hg.set0 _) hd h0 _).with ((hg.set0 _).set1 _)
theorem cells1 {b1 : Nat} {x1 y1 : Value} (E : Env W0 W ((b1, x1, y1) :: B) KA KI) : W.cell? ⟨b1, 0, none⟩ = some x1 ∧ W.cell? ⟨b1, 1, none⟩ = some y1 :=
  ⟨(E.bx _ (List.Mem.head _)).c0, (E.bx _ (List.Mem.head _)).c1⟩
theorem Env.tail {p : Nat × Value × Value} (E : Env W0 W (p :: B) KA KI) : Env W0 W B KA KI := E.sub (fun q hq => List.mem_cons_of_mem _ hq)
theorem cells2 {b1 b2 : Nat} {x1 y1 x2 y2 : Value} (E : Env W0 W ((b1, x1, y1) :: (b2, x2, y2) :: B) KA KI) : W.cell? ⟨b1, 0, none⟩ = some x1 ∧ W.cell? ⟨b1, 1, none⟩ = some y1 ∧ W.cell? ⟨b2, 0, none⟩ = some x2 ∧ W.cell? ⟨b2, 1, none⟩ = some y2 :=
  ⟨(cells1 E).1, (cells1 E).2, cells1 E.tail⟩
theorem cells3 {b1 b2 b3 : Nat} {x1 y1 x2 y2 x3 y3 : Value} (E : Env W0 W ((b1, x1, y1) :: (b2, x2, y2) :: (b3, x3, y3) :: B) KA KI) : W.cell? ⟨b1, 0, none⟩ = some x1 ∧ W.cell? ⟨b1, 1, none⟩ = some y1 ∧ W.cell? ⟨b2, 0, none⟩ = some x2 ∧ W.cell? ⟨b2, 1, none⟩ = some y2 ∧ W.cell? ⟨b3, 0, none⟩ = some x3 ∧ W.cell? ⟨b3, 1, none⟩ = some y3 :=
  ⟨(cells1 E).1, (cells1 E).2, cells2 E.tail⟩
theorem cells4 {b1 b2 b3 b4 : Nat} {x1 y1 x2 y2 x3 y3 x4 y4 : Value} (E : Env W0 W ((b1, x1, y1) :: (b2, x2, y2) :: (b3, x3, y3) :: (b4, x4, y4) :: B) KA KI) : W.cell? ⟨b1, 0, none⟩ = some x1 ∧ W.cell? ⟨b1, 1, none⟩ = some y1 ∧ W.cell? ⟨b2, 0, none⟩ = some x2 ∧ W.cell? ⟨b2, 1, none⟩ = some y2 ∧ W.cell? ⟨b3, 0, none⟩ = some x3 ∧ W.cell? ⟨b3, 1, none⟩ = some y3 ∧ W.cell? ⟨b4, 0, none⟩ = some x4 ∧ W.cell? ⟨b4, 1, none⟩ = some y4 :=
  ⟨(cells1 E).1, (cells1 E).2, cells3 E.tail⟩
theorem cells5 {b1 b2 b3 b4 b5 : Nat} {x1 y1 x2 y2 x3 y3 x4 y4 x5 y5 : Value} (E : Env W0 W ((b1, x1, y1) :: (b2, x2, y2) :: (b3, x3, y3) :: (b4, x4, y4) :: (b5, x5, y5) :: B) KA KI) : W.cell? ⟨b1, 0, none⟩ = some x1 ∧ W.cell? ⟨b1, 1, none⟩ = some y1 ∧ W.cell? ⟨b2, 0, none⟩ = some x2 ∧ W.cell? ⟨b2, 1, none⟩ = some y2 ∧ W.cell? ⟨b3, 0, none⟩ = some x3 ∧ W.cell? ⟨b3, 1, none⟩ = some y3 ∧ W.cell? ⟨b4, 0, none⟩ = some x4 ∧ W.cell? ⟨b4, 1, none⟩ = some y4 ∧ W.cell? ⟨b5, 0, none⟩ = some x5 ∧ W.cell? ⟨b5, 1, none⟩ = some y5 :=
  ⟨(cells1 E).1, (cells1 E).2, cells4 E.tail⟩

theorem Env.rebase (E : Env W0 W B KA KI) : Env W W B KA KI := ⟨E.bx, E.a, E.i, Below.refl _ _⟩
theorem Env.onto {w U : World} (hU : Below w.heap.size w U) (E : Env U W B KA KI) : Env w W B KA KI := ⟨E.bx, E.a, E.i, below_call hU E.bl hU.size⟩
theorem Env.less {KA' KI' : List (Value × Nat × Int)} (E : Env W0 W B KA KI) (hB : ∀ p ∈ B', p ∈ B) (hA : ∀ p ∈ KA', p ∈ KA) (hI : ∀ p ∈ KI', p ∈ KI) : Env W0 W B' KA' KI' := ⟨fun p hp => E.bx p (hB p hp), fun p hp => E.a p (hA p hp), fun p hp => E.i p (hI p hp), E.bl⟩
theorem Env.storeU {g k c i : Nat} {a : Option Addr} {b : Bool} {u' : Value} (E : Env W0 W B KA KI) (hl : ∀ p ∈ B, p.1 < W0.heap.size) (h0 : W0.heap.size ≤ g) (hg : Box W g (.bool b) (.slice a k c)) : Env W0 (W.setCell ⟨g, i, none⟩ u') B KA KI :=
  E.store hg (fun p hp => by have := hl p hp; omega) h0 u'

theorem keep2 {b1 b2 : Nat} {x1 y1 x2 y2 : Value} (h1 : Box W b1 x1 y1) (h2 : Box W b2 x2 y2) : W.cell? ⟨b1, 0, none⟩ = some x1 ∧ W.cell? ⟨b1, 1, none⟩ = some y1 ∧ W.cell? ⟨b2, 0, none⟩ = some x2 ∧ W.cell? ⟨b2, 1, none⟩ = some y2 := ⟨h1.c0, h1.c1, h2.c0, h2.c1⟩
theorem keep3 {b1 b2 b3 : Nat} {x1 y1 x2 y2 x3 y3 : Value} (h1 : Box W b1 x1 y1) (h2 : Box W b2 x2 y2) (h3 : Box W b3 x3 y3) : W.cell? ⟨b1, 0, none⟩ = some x1 ∧ W.cell? ⟨b1, 1, none⟩ = some y1 ∧ W.cell? ⟨b2, 0, none⟩ = some x2 ∧ W.cell? ⟨b2, 1, none⟩ = some y2 ∧ W.cell? ⟨b3, 0, none⟩ = some x3 ∧ W.cell? ⟨b3, 1, none⟩ = some y3 := ⟨h1.c0, h1.c1, keep2 h2 h3⟩
theorem keep4 {b1 b2 b3 b4 : Nat} {x1 y1 x2 y2 x3 y3 x4 y4 : Value} (h1 : Box W b1 x1 y1) (h2 : Box W b2 x2 y2) (h3 : Box W b3 x3 y3) (h4 : Box W b4 x4 y4) : W.cell? ⟨b1, 0, none⟩ = some x1 ∧ W.cell? ⟨b1, 1, none⟩ = some y1 ∧ W.cell? ⟨b2, 0, none⟩ = some x2 ∧ W.cell? ⟨b2, 1, none⟩ = some y2 ∧ W.cell? ⟨b3, 0, none⟩ = some x3 ∧ W.cell? ⟨b3, 1, none⟩ = some y3 ∧ W.cell? ⟨b4, 0, none⟩ = some x4 ∧ W.cell? ⟨b4, 1, none⟩ = some y4 := ⟨h1.c0, h1.c1, keep3 h2 h3 h4⟩

end Go.Proofs.YtogdchddmjokmaaGreatDoor

namespace Go.Proofs.YtogdchddmjokmaaGreatDoor.Lm
set_option linter.unusedVariables false
set_option maxRecDepth 100000

/-- The number of digits, the highest first. -/
def dval (l : List Nat) : Nat := decv l.reverse
theorem dval_nil : dval [] = 0 := rfl
theorem dval_append (a b : List Nat) : dval (a ++ b) = dval a * p10 b.length + dval b := by
  unfold dval
  rw [List.reverse_append, decv_append, List.length_reverse, Nat.mul_comm]
  omega
theorem dval_snoc (l : List Nat) (c : Nat) : dval (l ++ [c]) = dval l * 10 + (c - 48) := by
  rw [dval_append]; simp [dval, decv, p10]
theorem dval_lt {l : List Nat} (h : dig l) : dval l < p10 l.length := by
  have : ∀ l : List Nat, dig l → decv l < p10 l.length := by
    intro l
    induction l with
    | nil => intro _; simp [decv, p10]
    | cons c r ih =>
      intro h
      have h1 := dig_cons.1 h
      have := ih h1.2
      simp only [decv, List.length_cons, p10]
      omega
  have h2 := this l.reverse (fun c hc => h c (by simpa using hc))
  rw [List.length_reverse] at h2
  exact h2

theorem decsF_spec (f n : Nat) (h : n < f) : dig (decsF f n) ∧ decv (decsF f n) = n ∧ (decsF f n).getLast? ≠ some 48 := by
  induction f generalizing n with
  | zero => omega
  | succ f ih =>
    unfold decsF
    by_cases h0 : n = 0
    · rw [if_pos h0]
      exact ⟨by intro c hc; simp at hc, by simp [decv, h0], by simp⟩
    · rw [if_neg h0]
      have h1 := ih (n / 10) (by omega)
      refine ⟨dig_cons.2 ⟨by omega, h1.1⟩, ?_, ?_⟩
      · simp only [decv]; rw [h1.2.1]; omega
      · by_cases h2 : decsF f (n / 10) = []
        · rw [h2]
          have h3 := h1.2.1
          rw [h2] at h3
          simp only [decv] at h3
          simp
          omega
        · rw [List.getLast?_cons]
          intro h3
          apply h1.2.2
          cases hx : (decsF f (n / 10)).getLast? with
          | none => simp at hx; exact absurd hx h2
          | some y => rw [hx] at h3; simpa using h3
theorem decs_dig (n : Nat) : dig (decs n) := (decsF_spec (n + 1) n (by omega)).1
theorem decs_val (n : Nat) : decv (decs n) = n := (decsF_spec (n + 1) n (by omega)).2.1
theorem decs_last (n : Nat) : (decs n).getLast? ≠ some 48 := (decsF_spec (n + 1) n (by omega)).2.2

/-- Digits, one or more, without noughts ahead. -/
def goodD (d : List Nat) : Prop := d ≠ [] ∧ dig d ∧ (d.head? = some 48 → d.length = 1)
/-- Is it below nought that is told? -/
def isNeg (l : List Nat) : Bool := l.head? == some 45
def bodyOf (l : List Nat) : List Nat := if isNeg l then l.tail else l
/-- What may be read. -/
def mayRead (l : List Nat) : Prop := goodD (bodyOf l) ∧ ¬ (isNeg l = true ∧ bodyOf l = [48])
/-- What is read. -/
def readV (l : List Nat) : Int := sgn (isNeg l) (dval (bodyOf l))

theorem text_read (z : Int) : mayRead (textOf z) ∧ readV (textOf z) = z := by
  unfold textOf
  by_cases h0 : z = 0
  · rw [if_pos h0]
    subst h0
    refine ⟨⟨⟨by simp [bodyOf, isNeg], by intro c hc; simp [bodyOf, isNeg] at hc; omega, by simp [bodyOf, isNeg]⟩, by simp [isNeg]⟩, by simp [readV, isNeg, bodyOf, sgn, dval, decv]⟩
  · rw [if_neg h0]
    have hne : decs z.natAbs ≠ [] := by
      intro h
      have := decs_val z.natAbs
      rw [h] at this
      simp only [decv] at this
      omega
    have hd : dig (decs z.natAbs).reverse := fun c hc => decs_dig _ c (by simpa using hc)
    have hh : (decs z.natAbs).reverse.head? ≠ some 48 := by rw [List.head?_reverse]; exact decs_last _
    have hr : (decs z.natAbs).reverse ≠ [] := by simpa using hne
    have hg : goodD (decs z.natAbs).reverse := ⟨hr, hd, fun h => absurd h hh⟩
    have hv : dval (decs z.natAbs).reverse = z.natAbs := by unfold dval; rw [List.reverse_reverse]; exact decs_val _
    by_cases hz : z < 0
    · rw [if_pos hz]
      have hn : isNeg ([45] ++ (decs z.natAbs).reverse) = true := by simp [isNeg]
      have hb : bodyOf ([45] ++ (decs z.natAbs).reverse) = (decs z.natAbs).reverse := by unfold bodyOf; rw [hn]; rfl
      refine ⟨⟨by rw [hb]; exact hg, ?_⟩, ?_⟩
      · rw [hb]
        rintro ⟨_, h⟩
        rw [h] at hh
        simp at hh
      · unfold readV
        rw [hb, hn, hv]
        simp [sgn]; omega
    · rw [if_neg hz, List.nil_append]
      have hn : isNeg (decs z.natAbs).reverse = false := by
        unfold isNeg
        cases hx : (decs z.natAbs).reverse with
        | nil => rfl
        | cons c r =>
          have := hd c (by rw [hx]; simp)
          simp
          omega
      have hb : bodyOf (decs z.natAbs).reverse = (decs z.natAbs).reverse := by unfold bodyOf; rw [hn]; rfl
      refine ⟨⟨by rw [hb]; exact hg, by rw [hn]; simp⟩, ?_⟩
      unfold readV
      rw [hb, hn, hv]
      simp [sgn]; omega
/-- Two numbers are one just where their texts are. -/
theorem text_inj (x y : Int) : textOf x = textOf y ↔ x = y := by
  constructor
  · intro h
    rw [← (text_read x).2, ← (text_read y).2, h]
  · intro h; rw [h]
/-- A number has so many digits at most. -/
theorem p10_le_pw (n k : Nat) (h : 10 * k ≤ n) : pw k ≤ p10 n := by
  obtain ⟨c, rfl⟩ := Nat.exists_eq_add_of_le h
  rw [p10_add]
  have : pw k ≤ p10 (10 * k) := by
    clear h
    induction k with
    | zero => simp [pw, p10]
    | succ k ih =>
      rw [Nat.mul_succ, p10_add]
      have e : p10 10 = 10000000000 := by simp [p10]
      rw [e]
      simp only [pw]
      omega
  exact Nat.le_trans this (Nat.le_mul_of_pos_right _ (p10_pos _))
theorem decv_ge {l : List Nat} (hd : dig l) (hc : l.getLast? ≠ some 48) (hne : l ≠ []) : p10 (l.length - 1) ≤ decv l := by
  induction l with
  | nil => simp at hne
  | cons c r ih =>
    have h1 := dig_cons.1 hd
    by_cases hr : r = []
    · subst hr
      simp at hc
      simp [decv, p10]
      omega
    · have h2 := ih h1.2 (by
        intro h; apply hc
        rw [List.getLast?_cons, h]; rfl) hr
      obtain ⟨m, hm⟩ : ∃ m, r.length = m + 1 := ⟨r.length - 1, by cases r with | nil => simp at hr | cons a b => simp⟩
      rw [hm] at h2
      simp only [decv, List.length_cons, hm, Nat.add_sub_cancel, p10] at h2 ⊢
      omega
/-- The text of a number of so many limbs has no more bytes than that. -/
theorem text_len {z : Int} {k : Nat} (h : z.natAbs < pw k) : (textOf z).length ≤ 10 * k + 2 := by
  unfold textOf
  by_cases h0 : z = 0
  · rw [if_pos h0]; simp
  · rw [if_neg h0]
    have h1 : (decs z.natAbs).length ≤ 10 * k := by
      by_cases hne : decs z.natAbs = []
      · rw [hne]; simp
      · have h2 := decv_ge (decs_dig _) (decs_last z.natAbs) hne
        rw [decs_val] at h2
        have hl : 0 < (decs z.natAbs).length := by
          cases hx : decs z.natAbs with
          | nil => exact absurd hx hne
          | cons a b => simp
        rcases Nat.lt_or_ge (10 * k) (decs z.natAbs).length with h3 | h3
        · have h4 := p10_le_pw ((decs z.natAbs).length - 1) k (by omega)
          omega
        · exact h3
    simp only [List.length_append, List.length_reverse]
    have h2 : (if z < 0 then [45] else ([] : List Nat)).length ≤ 1 := by split <;> simp
    omega

end Go.Proofs.YtogdchddmjokmaaGreatDoor.Lm

namespace Go.Proofs.YtogdchddmjokmaaGreatDoor
open Go.RowKit Lm
set_option linter.unusedSimpArgs false
set_option linter.unusedVariables false
set_option maxRecDepth 100000

/-- The bytes of a text. -/
def lst (s : ByteArray) : List Nat := s.toList.map UInt8.toNat
theorem toList_len (s : ByteArray) : s.toList.length = s.size := by rw [ByteArray.toList_eq, Array.length_toList]; rfl
theorem lst_length (s : ByteArray) : (lst s).length = s.size := by rw [lst, List.length_map, toList_len]
theorem toList_get (s : ByteArray) (i : Nat) (h : i < s.size) : s.toList[i]? = some s[i] := by
  rw [ByteArray.toList_eq, Array.getElem?_toList]
  exact Array.getElem?_eq_getElem h
theorem lst_get (s : ByteArray) (i : Nat) (h : i < s.size) : (lst s)[i]? = some s[i].toNat := by
  rw [lst, List.getElem?_map, toList_get s i h]; rfl
theorem lst_getD (s : ByteArray) (i : Nat) (h : i < s.size) : (lst s).getD i 0 = s[i].toNat := by
  rw [List.getD_eq_getElem?_getD, lst_get s i h]; rfl
theorem ext_toList (s : ByteArray) (a b : Nat) : (s.extract a b).toList = (s.toList.drop a).take (b - a) := by
  rw [ByteArray.toList_eq, ByteArray.toList_eq, ByteArray.data_extract, Array.toList_extract, List.extract]
theorem lst_extract (s : ByteArray) (a b : Nat) : lst (s.extract a b) = ((lst s).drop a).take (b - a) := by
  rw [lst, lst, ext_toList, List.map_take, List.map_drop]
theorem map_toNat_inj : ∀ a b : List UInt8, a.map UInt8.toNat = b.map UInt8.toNat → a = b
  | [], [], _ => rfl
  | [], y :: s, h => by simp at h
  | x :: r, [], h => by simp at h
  | x :: r, y :: s, h => by
    rw [List.map_cons, List.map_cons, List.cons.injEq] at h
    rw [UInt8.toNat_inj.1 h.1, map_toNat_inj r s h.2]
theorem lst_inj {s t : ByteArray} (h : lst s = lst t) : s = t := by
  have h1 := map_toNat_inj _ _ h
  rw [ByteArray.toList_eq, ByteArray.toList_eq] at h1
  have h2 : s.data = t.data := Array.toList_inj.1 h1
  cases s; cases t; simp only at h2; rw [h2]
theorem lst_str {l : List Nat} (h : ∀ c ∈ l, c < 256) : lst (str l) = l := by
  unfold lst str
  rw [ByteArray.toList_mk]
  induction l with
  | nil => rfl
  | cons c r ih =>
    have h1 := h c (by simp)
    rw [List.map_cons, List.map_cons, ih (fun x hx => h x (by simp [hx]))]
    rw [UInt8.toNat_ofNat_of_lt' (by simpa using h1)]
theorem lst_nil {s : ByteArray} (h : s.toList = []) : lst s = [] := by rw [lst, h]; rfl

theorem neg_bool (s : ByteArray) : (((s.extract 0 1).toList == [45]) : Bool) = isNeg (lst s) := by
  rw [ext_toList, isNeg, lst]
  cases h : s.toList with
  | nil => rfl
  | cons c r =>
    simp only [List.drop_zero, List.take_succ_cons, Nat.sub_zero, List.take_zero, List.map_cons, List.head?_cons]
    by_cases hc : c = 45
    · subst hc; rfl
    · have h2 : c.toNat ≠ 45 := by
        intro e; apply hc; exact UInt8.toNat_inj.1 e
      rw [show (([c] : List UInt8) == [45]) = false by simpa using hc]
      symm
      simpa using h2

set_option maxHeartbeats 800000 in
theorem hasMinus_any (w : World) (s : ByteArray) (hs : s.size ≤ 9223372036854775807) :
    Calls Tryz.prog 76 #[.string s, .string ⟨#[45]⟩] w fun e w' => e = .returned (.bool (isNeg (lst s))) ∧ w' = w := by
  go_enter Tryz.func76, Tryz.ntmps76
  go_wp2
  · go_ret
    exact ⟨ret_bool (neg_bool s), rfl⟩
  · go_ret
    refine ⟨ret_bool ?_, rfl⟩
    have h0 : s.toList = [] := List.eq_nil_of_length_eq_zero (by rw [toList_len]; omega)
    rw [lst_nil h0]; rfl

/-- What CutPrefix leaves. -/
def cutV (s : ByteArray) : ByteArray := if isNeg (lst s) then s.extract 1 s.size else s
theorem lst_cut (s : ByteArray) : lst (cutV s) = bodyOf (lst s) := by
  unfold cutV bodyOf
  cases h : isNeg (lst s)
  · rfl
  · simp only [if_true]
    rw [lst_extract, List.take_of_length_le (by rw [List.length_drop, lst_length]; omega), List.drop_one]
theorem cut_size (s : ByteArray) : (cutV s).size ≤ s.size := by
  rw [← lst_length, ← lst_length, lst_cut]
  unfold bodyOf
  split
  · rw [List.length_tail]; omega
  · exact Nat.le_refl _

set_option maxHeartbeats 800000 in
theorem cutPrefix0_any (w : World) (s : ByteArray) (hs : s.size ≤ 9223372036854775807) :
    Calls Tryz.prog 57 #[.string s, .string ⟨#[45]⟩] w fun e w' => e = .returned (.tuple #[.string (cutV s), .bool (isNeg (lst s))]) ∧ w' = w := by
  go_enter Tryz.func57, Tryz.ntmps57
  go_wp2_with fail
  refine (hasMinus_any _ s hs).mono ?_
  rintro e w1 ⟨rfl, rfl⟩
  cases hn : isNeg (lst s)
  · go_wp2
    go_ret2
    exact ⟨by rw [cutV, hn]; rfl, rfl⟩
  · have hpos : 1 ≤ s.size := by
      rw [← lst_length]
      cases hx : lst s with
      | nil => rw [hx] at hn; simp [isNeg] at hn
      | cons c r => simp
    go_wp2
    go_ret2
    exact ⟨by rw [cutV, hn]; rfl, rfl⟩
set_option maxHeartbeats 800000 in
theorem cutPrefix_any (w : World) (s : ByteArray) (hs : s.size ≤ 9223372036854775807) :
    Calls Tryz.prog 32 #[.string s, .string ⟨#[45]⟩] w fun e w' => e = .returned (.tuple #[.string (cutV s), .bool (isNeg (lst s))]) ∧ w' = w := by
  go_enter Tryz.func32, Tryz.ntmps32
  go_wp2_with fail
  refine (cutPrefix0_any _ s hs).mono ?_
  rintro e w1 ⟨rfl, rfl⟩
  go_wp2
  go_ret2
  exact ⟨rfl, rfl⟩

theorem dig_of {s : ByteArray} (h : ∀ j (hj : j < s.size), 48 ≤ s[j].toNat ∧ s[j].toNat ≤ 57) : dig (lst s) := by
  intro c hc
  obtain ⟨j, hj, rfl⟩ := List.getElem_of_mem hc
  have h1 : j < s.size := by rwa [lst_length] at hj
  have h2 := lst_get s j h1
  rw [List.getElem?_eq_getElem hj] at h2
  rw [Option.some.inj h2]
  exact h j h1
theorem dig_at {s : ByteArray} (h : dig (lst s)) (j : Nat) (hj : j < s.size) : 48 ≤ s[j].toNat ∧ s[j].toNat ≤ 57 :=
  h _ (List.mem_of_getElem? (lst_get s j hj))
theorem head_at (s : ByteArray) (h : 0 < s.size) : (lst s).head? = some s[0].toNat := by rw [List.head?_eq_getElem?, lst_get s 0 h]

/-- A loop's end: all are digits. -/
def DRel (s : ByteArray) (iv : Value) : Prop := ∃ k : Nat, k ≤ s.size ∧ iv = .int .i64 (k : Int) ∧ ∀ j (hj : j < s.size), j < k → 48 ≤ s[j].toNat ∧ s[j].toNat ≤ 57
def DigPost (s : ByteArray) (w : World) (e : Ending) (w' : World) : Prop := ∃ b : Bool, e = .returned (.bool b) ∧ (b = true ↔ goodD (lst s)) ∧ w' = w

end Go.Proofs.YtogdchddmjokmaaGreatDoor

namespace Go.Proofs.YtogdchddmjokmaaGreatDoor
open Go.RowKit Lm
set_option linter.unusedSimpArgs false
set_option linter.unusedVariables false
set_option maxRecDepth 100000

theorem take_get (l : List Nat) (k : Nat) (h : k < l.length) : l.take (k + 1) = l.take k ++ [l.getD k 0] := by
  rw [List.take_succ_eq_append_getElem h, List.getD_eq_getElem?_getD, List.getElem?_eq_getElem h]; rfl

/-- Limbs of the call's own. -/
def TBPost (w0 : World) (L V : Nat) (e : Ending) (w' : World) : Prop :=
  ∃ (ao : Option Addr) (cap k : Nat) (l : List Nat), e = .returned (.slice ao k cap) ∧ Hid (k = l.length) ∧ w'.ownsRow w0.heap.size 55 1 (.slice ao k cap) k (U l) ∧ ok l ∧ val l = V ∧ l.length ≤ L ∧ Below w0.heap.size w0 w'

theorem tb_step {l C : List Nat} {k c n : Nat} (hkC : k < C.length) (hkl : k < l.length) (hv : val (C.take k) + pw k * c = val (l.take k) * 1000000000 + n) :
    val ((C.set k ((l.getD k 0 * 1000000000 + c) % 4294967296)).take (k + 1)) + pw (k + 1) * ((l.getD k 0 * 1000000000 + c) / 4294967296) = val (l.take (k + 1)) * 1000000000 + n := by
  rw [take_set_succ hkC, val_take_succ l k hkl, pw_succ_mul]
  have h1 := Nat.div_add_mod (l.getD k 0 * 1000000000 + c) 4294967296
  have h2 := congrArg (pw k * ·) h1
  simp only [Nat.mul_add] at h2
  rw [Nat.add_mul, Nat.mul_assoc (pw k)]
  generalize pw k * (4294967296 * ((l.getD k 0 * 1000000000 + c) / 4294967296)) = X at *
  generalize pw k * ((l.getD k 0 * 1000000000 + c) % 4294967296) = Y at *
  generalize pw k * (l.getD k 0 * 1000000000) = Z at *
  omega
theorem own_set {w : World} {base g cap k x i : Nat} {C : List Nat} (h : w.ownsRow base 55 1 (.slice (some ⟨g, 0, none⟩) k cap) k (U C)) : (w.setCell ⟨g, i, none⟩ (.int .u32 (x : Int))).ownsRow base 55 1 (.slice (some ⟨g, 0, none⟩) k cap) k (U (C.set i x)) := by
  have := h.stored i (.int .u32 (x : Int))
  rw [show U (C.set i x) = (U C).set i (.int .u32 (x : Int)) by simp [U, List.map_set]]
  exact this.1
theorem own_some {w : World} {base : Nat} {ao : Option Addr} {cap k : Nat} {xs : List Value} (h : w.ownsRow base 55 1 (.slice ao k cap) k xs) (hk : 0 < k) : ∃ g, ao = some ⟨g, 0, none⟩ ∧ base ≤ g ∧ k ≤ cap ∧ cap ≤ maxLen := by
  rcases h.2 with ⟨h', h0⟩ | ⟨g, cap', cur, h', hbg, hg, hnc, hcm, hcs, htake⟩
  · omega
  · simp only [Value.slice.injEq, true_and] at h'
    obtain ⟨rfl, rfl⟩ := h'
    exact ⟨g, rfl, hbg, hnc, hcm⟩
theorem own_capm {w : World} {base : Nat} {ao : Option Addr} {cap k : Nat} {xs : List Value} (h : w.ownsRow base 55 1 (.slice ao k cap) k xs) : k ≤ cap ∧ cap ≤ maxLen := by
  rcases h.2 with ⟨h', h0⟩ | ⟨g, cap', cur, h', hbg, hg, hnc, hcm, hcs, htake⟩
  · simp only [Value.slice.injEq] at h'
    obtain ⟨rfl, rfl, rfl⟩ := h'
    exact ⟨Nat.le_refl _, by unfold maxLen; omega⟩
  · simp only [Value.slice.injEq, true_and] at h'
    obtain ⟨rfl, rfl⟩ := h'
    exact ⟨hnc, hcm⟩

end Go.Proofs.YtogdchddmjokmaaGreatDoor

namespace Go.Proofs.YtogdchddmjokmaaGreatDoor
open Go.RowKit Lm
set_option linter.unusedSimpArgs false
set_option linter.unusedVariables false
set_option maxRecDepth 100000

/-- What stands at the head of a round of limbsOfDigits. -/
def LDRel (w0 : World) (s : ByteArray) (dv lv : Value) (wr : World) : Prop :=
  ∃ (k : Nat) (t : ByteArray) (ao : Option Addr) (cap n : Nat) (l : List Nat), dv = .string t ∧ lv = .slice ao n cap ∧ k ≤ s.size ∧ Hid (lst t = (lst s).drop k) ∧ Hid (k = 0 ∨ t.size % 9 = 0) ∧ Hid (n = l.length) ∧ wr.ownsRow w0.heap.size 55 1 (.slice ao n cap) n (U l) ∧ ok l ∧ Hid (val l = dval ((lst s).take k)) ∧ l.length ≤ k ∧ Below w0.heap.size w0 wr

theorem size_lst {s t : ByteArray} {k : Nat} (h : lst t = (lst s).drop k) : t.size = s.size - k := by
  rw [← lst_length t, h, List.length_drop, lst_length]

/-- What Read tells. -/
def ReadPost (w : World) (s : ByteArray) (e : Ending) (w' : World) : Prop :=
  (5000 < s.size ∧ e = .returned (.tuple #[.agg #[.bool false, .slice none 0 0], .int .i64 2]) ∧ Below w.heap.size w w') ∨
  (s.size ≤ 5000 ∧ ¬ mayRead (lst s) ∧ e = .returned (.tuple #[.agg #[.bool false, .slice none 0 0], .int .i64 4]) ∧ Below w.heap.size w w') ∨
  (s.size ≤ 5000 ∧ mayRead (lst s) ∧ ∃ neg ao k cap, e = .returned (.tuple #[.agg #[.bool neg, .slice ao k cap], .int .i64 0]) ∧ Is w' w.heap.size (.agg #[.bool neg, .slice ao k cap]) s.size (readV (lst s)) ∧ Below w.heap.size w w')

theorem zero_text (s : ByteArray) : ((s.toList == [48]) : Bool) = decide (lst s = [48]) := by
  rw [lst]
  by_cases h : s.toList = [48]
  · rw [h]; rfl
  · have h2 : ¬ s.toList.map UInt8.toNat = [48] := by
      intro e
      apply h
      exact map_toNat_inj _ _ e
    rw [decide_eq_false h2]
    simpa using h

end Go.Proofs.YtogdchddmjokmaaGreatDoor

namespace Go.Proofs.YtogdchddmjokmaaGreatDoor
open Go.RowKit Lm
set_option linter.unusedSimpArgs false
set_option linter.unusedVariables false
set_option maxRecDepth 100000

variable {W0 W W' : World} {B B' : List (Nat × Value × Value)} {KA KI : List (Value × Nat × Int)} {u v : Value} {n m : Nat} {x y : Int}

theorem text_small (z : Int) : ∀ c ∈ textOf z, c < 256 := by
  intro c hc
  unfold textOf at hc
  split at hc
  · simp at hc; omega
  · rw [List.mem_append] at hc
    rcases hc with h | h
    · split at h
      · simp at h; omega
      · simp at h
    · have := decs_dig z.natAbs c (by simpa using h)
      omega
theorem lst_text (z : Int) : lst (str (textOf z)) = textOf z := lst_str (text_small z)
theorem str_size (z : Int) : (str (textOf z)).size = (textOf z).length := by rw [← lst_length, lst_text]
theorem text_toList (x y : Int) : ((str (textOf x)).toList == (str (textOf y)).toList) = decide (x = y) := by
  by_cases h : x = y
  · subst h; simp
  · rw [decide_eq_false h]
    have h1 : ¬ (str (textOf x)).toList = (str (textOf y)).toList := by
      intro e
      apply h
      rw [← text_inj, ← lst_text x, ← lst_text y, lst, lst, e]
    simpa using h1
theorem arg_abs {W : World} {v : Value} {n : Nat} {z : Int} (h : Arg W v n z) : z.natAbs < pw n := by
  obtain ⟨neg, sv, l, _, ⟨ao, cap, _, hs⟩, hl, hz⟩ := h
  have h1 := val_lt hs.1
  have h2 := pw_mono hl
  have h3 : z.natAbs ≤ val l := by
    rw [hz]; unfold mean
    split
    · rw [sgn_abs]; exact Nat.le_refl _
    · simp
  omega
/-- A number and no error have been told. -/
def SaysR (W0 : World) (B : List (Nat × Value × Value)) (KA KI : List (Value × Nat × Int)) (n : Nat) (x : Int) (e : Ending) (w' : World) : Prop :=
  ∃ neg ao k cap, e = .returned (.tuple #[.agg #[.bool neg, .slice ao k cap], .int .i64 0]) ∧ Env W0 w' B ((.agg #[.bool neg, .slice ao k cap], n, x) :: KA) ((.agg #[.bool neg, .slice ao k cap], n, x) :: KI)
theorem env_cmpE (E : Env W0 W B KA KI) (hu : (u, n, x) ∈ KA) (hv : (v, m, y) ∈ KA) (h : x = y) : Calls Tryz.prog 44 #[u, v] W fun e w' => e = .returned (.int .i64 0) ∧ Env W0 w' B KA KI := by
  refine (env_cmp2 E hu hv).mono ?_
  rintro e w' ⟨rfl, E2⟩
  exact ⟨by rw [cmpI_eq h], E2⟩
theorem cmpI_ne {x y : Int} (h : x ≠ y) : cmpI x y ≠ 0 := by
  unfold cmpI
  split
  · omega
  · split <;> omega
theorem env_cmpN (E : Env W0 W B KA KI) (hu : (u, n, x) ∈ KA) (hv : (v, m, y) ∈ KA) (h : x ≠ y) : Calls Tryz.prog 44 #[u, v] W fun e w' => ∃ z : Int, e = .returned (.int .i64 z) ∧ (z == 0) = false ∧ Env W0 w' B KA KI := by
  refine (env_cmp2 E hu hv).mono ?_
  rintro e w' ⟨rfl, E2⟩
  exact ⟨_, rfl, by simpa using cmpI_ne h, E2⟩
theorem env_may {b : Bool} {a : Option Addr} {k c : Nat} (E : Env W0 W B KA KI) (hu : (.agg #[.bool b, .slice a k c], n, x) ∈ KI) : Calls Tryz.prog 63 #[.agg #[.bool b, .slice a k c]] W fun e w' => e = .returned (.bool true) ∧ Env W0 w' B KA KI := by
  obtain ⟨neg, ao, cap, l, e, hs, _, _, hm, _⟩ := E.i _ hu
  simp only [Value.agg.injEq, Array.mk.injEq, List.cons.injEq, Value.bool.injEq, Value.slice.injEq, and_true] at e
  obtain ⟨rfl, rfl, rfl, rfl⟩ := e
  refine (may_any W b a c l hs).mono ?_
  rintro e w' ⟨rfl, hb⟩
  exact ⟨by rw [hm], E.step hb⟩

end Go.Proofs.YtogdchddmjokmaaGreatDoor
