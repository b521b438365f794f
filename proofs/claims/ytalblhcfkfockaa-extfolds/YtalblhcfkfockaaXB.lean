/-
  The order of quotients with ends, and their texts; whether two are one.
  Walks: how great quotients with ends are; the law ExtTexts.
  What is known from call to call, of quotients with ends.
-/
import Derived.Test.YtalblhcfkfockaaXA
import Derived.Test.YtalblhcfkfockaaG7

namespace Go.Proofs.Ytalblhcfkfockaa
open Go.RowKit Lm
set_option linter.unusedSimpArgs false
set_option linter.unusedVariables false
set_option maxRecDepth 100000

theorem cmpR_le_iff (r t : Rat) : cmpR r t ≤ 0 ↔ r ≤ t := by
  rcases cmpR_or r t with ⟨h1, h2⟩ | ⟨h1, h2⟩ | ⟨h1, h2⟩ <;> rw [h2] <;> constructor <;> intro h <;> first | omega | grind
theorem cmpR_eq_iff (r t : Rat) : cmpR r t = 0 ↔ r = t := by
  rcases cmpR_or r t with ⟨h1, h2⟩ | ⟨h1, h2⟩ | ⟨h1, h2⟩ <;> rw [h2] <;> constructor <;> intro h <;> first | omega | grind
theorem cmpR_swap (r t : Rat) : cmpR t r = - cmpR r t := by
  rcases cmpR_or r t with ⟨h1, h2⟩ | ⟨h1, h2⟩ | ⟨h1, h2⟩
  · rw [h2, cmpR_gt h1]; rfl
  · rw [h2, cmpR_eq h1.symm]; rfl
  · rw [h2, cmpR_lt h1]
theorem cmpE_swap (x y : EX) : cmpE y x = - cmpE x y := by
  cases x <;> cases y <;> first | exact cmpR_swap _ _ | simp [cmpE, eK, cmpI]
theorem cmpE_eq_iff (x y : EX) : cmpE x y = 0 ↔ x = y := by
  cases x <;> cases y <;> first | (show cmpR _ _ = 0 ↔ _; rw [cmpR_eq_iff]; simp) | simp [cmpE, eK, cmpI]
theorem cmpE_trans {x y z : EX} (h1 : cmpE x y ≤ 0) (h2 : cmpE y z ≤ 0) : cmpE x z ≤ 0 := by
  cases x <;> cases y <;> cases z <;> first
    | (simp [cmpE, eK, cmpI] at *; done)
    | (simp [cmpE, eK, cmpI] at h1; done)
    | (simp [cmpE, eK, cmpI] at h2; done)
    | (have a := (cmpR_le_iff _ _).1 h1; have b := (cmpR_le_iff _ _).1 h2; exact (cmpR_le_iff _ _).2 (by grind))
theorem cmpE_low (x : EX) : cmpE .lo x ≤ 0 := by cases x <;> simp [cmpE, eK, cmpI]
theorem cmpE_high (x : EX) : cmpE x .hi ≤ 0 := by cases x <;> simp [cmpE, eK, cmpI]
theorem cmpR_plus (r s t : Rat) : cmpR (r + t) (s + t) = cmpR r s := by
  rcases cmpR_or r s with ⟨h1, h2⟩ | ⟨h1, h2⟩ | ⟨h1, h2⟩
  · rw [h2, cmpR_lt (by grind)]
  · rw [h2, cmpR_eq (by grind)]
  · rw [h2, cmpR_gt (by grind)]
theorem cmpE_add (x y : EX) (t : Rat) : cmpE (addE x t) (addE y t) = cmpE x y := by
  cases x <;> cases y <;> first | exact cmpR_plus _ _ _ | rfl

/-- The bytes of a text. -/
def textL (r : Rat) : List Nat := if (r.den : Int) = 1 then textOf r.num else textOf r.num ++ [47] ++ textOf r.den
theorem str_app9 (a b : List Nat) : str (a ++ b) = str a ++ str b := by
  unfold str
  rw [List.map_append]
  apply ByteArray.ext
  simp [ByteArray.data_append]
theorem text_digs (z : Int) : ∀ c ∈ textOf z, c = 45 ∨ (48 ≤ c ∧ c ≤ 57) := by
  intro c hc
  unfold textOf at hc
  split at hc
  · simp at hc; omega
  · simp only [List.mem_append, List.mem_reverse] at hc
    rcases hc with hc | hc
    · split at hc <;> simp at hc
      omega
    · have := decs_dig _ c hc
      omega
theorem textL_small (r : Rat) : ∀ c ∈ textL r, c < 256 := by
  intro c h
  unfold textL at h
  split at h
  · have := text_digs _ _ h; omega
  · simp only [List.mem_append, List.mem_singleton] at h
    rcases h with (h | h) | h
    · have := text_digs _ _ h; omega
    · omega
    · have := text_digs _ _ h; omega
theorem lst_textR (r : Rat) : lst (textR r) = textL r := by
  have e : textR r = str (textL r) := by
    unfold textR textL
    split
    · rfl
    · rw [str_app9, str_app9]
      rfl
  rw [e, lst_str (textL_small r)]
theorem cut47 {a b c d : List Nat} (ha : 47 ∉ a) (hc : 47 ∉ c) (h : a ++ [47] ++ b = c ++ [47] ++ d) : a = c ∧ b = d := by
  induction a generalizing c with
  | nil =>
    cases c with
    | nil => simpa using h
    | cons e c => simp at h hc; omega
  | cons e a ih =>
    cases c with
    | nil => simp at h ha; omega
    | cons f c =>
      simp only [List.cons_append, List.cons.injEq] at h
      simp only [List.mem_cons, not_or] at ha hc
      obtain ⟨h1, h2⟩ := ih ha.2 hc.2 h.2
      exact ⟨by rw [h.1, h1], h2⟩
theorem no47 (z : Int) : 47 ∉ textOf z := fun h => by have := text_digs z 47 h; omega
theorem textR_inj {r t : Rat} (h : textR r = textR t) : r = t := by
  have h1 : textL r = textL t := by rw [← lst_textR, ← lst_textR, h]
  unfold textL at h1
  by_cases hr : (r.den : Int) = 1 <;> by_cases ht : (t.den : Int) = 1
  · rw [if_pos hr, if_pos ht] at h1
    exact Rat.ext ((text_inj _ _).1 h1) (by omega)
  · rw [if_pos hr, if_neg ht] at h1
    exact absurd (show 47 ∈ textOf r.num by rw [h1]; simp) (no47 _)
  · rw [if_neg hr, if_pos ht] at h1
    exact absurd (show 47 ∈ textOf t.num by rw [← h1]; simp) (no47 _)
  · rw [if_neg hr, if_neg ht] at h1
    obtain ⟨h2, h3⟩ := cut47 (no47 _) (no47 _) h1
    have h4 := (text_inj _ _).1 h3
    exact Rat.ext ((text_inj _ _).1 h2) (by omega)
theorem textL_digs (r : Rat) : 105 ∉ textL r := by
  unfold textL
  intro h
  split at h
  · have := text_digs _ _ h; omega
  · simp only [List.mem_append, List.mem_singleton] at h
    rcases h with (h | h) | h
    · have := text_digs _ _ h; omega
    · omega
    · have := text_digs _ _ h; omega
theorem textR_no {r : Rat} {s : ByteArray} (hs : 105 ∈ lst s) : textR r ≠ s := fun h => textL_digs r (by rw [← lst_textR, h]; exact hs)
theorem textE_iff (x y : EX) : textE x = textE y ↔ x = y := by
  refine ⟨fun h => ?_, fun h => by rw [h]⟩
  have lo105 : 105 ∈ lst (textE .lo) := by rw [show textE .lo = str [45, 105, 110, 102] from rfl, lst_str (by simp)]; simp
  have hi105 : 105 ∈ lst (textE .hi) := by rw [show textE .hi = str [105, 110, 102] from rfl, lst_str (by simp)]; simp
  have hne : textE .lo ≠ textE .hi := by decide
  cases x <;> cases y
  · rfl
  · exact absurd h.symm (textR_no lo105)
  · exact absurd h hne
  · exact absurd h (textR_no lo105)
  · rw [textR_inj h]
  · exact absurd h (textR_no hi105)
  · exact absurd h.symm hne
  · exact absurd h.symm (textR_no hi105)
  · rfl

set_option maxHeartbeats 3200000 in
theorem sameExt_any (w : World) (x : EX) (n m : Nat) (m1 : Bool) (p1 : Option Addr) (j1 d1 : Nat) (m2 : Bool) (p2 : Option Addr) (j2 d2 : Nat) (m3 : Bool) (p3 : Option Addr) (j3 d3 : Nat) (m4 : Bool) (p4 : Option Addr) (j4 d4 : Nat) (h1 : EIs w n m1 p1 j1 d1 m2 p2 j2 d2 x) (h2 : EIs w m m3 p3 j3 d3 m4 p4 j4 d4 x) :
    Calls Try.prog 13 #[.agg #[.int .i64 (eK x), .bool m1, .slice p1 j1 d1, .bool m2, .slice p2 j2 d2], .agg #[.int .i64 (eK x), .bool m3, .slice p3 j3 d3, .bool m4, .slice p4 j4 d4]] w fun e w' => e = .returned (.bool true) ∧ Below w.heap.size w w' := by
  have hW0 : Below w.heap.size w ((w.alloc (.cells #[.int .i64 (eK x), .bool m1, .slice p1 j1 d1, .bool m2, .slice p2 j2 d2] 31)).alloc (.cells #[.int .i64 (eK x), .bool m3, .slice p3 j3 d3, .bool m4, .slice p4 j4 d4] 31)) := (by repeat (first | exact Below.refl _ _ | refine Below.alloc ?_ ?_ _ | refine Below.setCell ?_ ?_ _ | refine Below.drew ?_ | refine below_drewN ?_ _ | (· simp) | omega | (· simp; omega) | exact Below.size (by assumption) | assumption | refine below_call ?_ (by assumption) ?_))
  replace h1 := h1.below hW0
  replace h2 := h2.below hW0
  have HK : Hid (eK x = eK x) := hid rfl
  go_enter Try.func13, Try.ntmps13
  cases x with
  | lo =>
    obtain ⟨rfl, rfl, rfl, rfl, rfl, rfl, rfl, rfl⟩ := h1
    obtain ⟨rfl, rfl, rfl, rfl, rfl, rfl, rfl, rfl⟩ := h2
    simp only [eK] at *
    go_wp2_with fail
    refine (sameZero_any _).mono ?_
    rintro e w1 ⟨rfl, hb1⟩
    have hW1 := below_call hW0 hb1 hW0.size
    clear hb1
    go_wp2
    go_ret
    exact ⟨rfl, hW1⟩
  | hi =>
    obtain ⟨rfl, rfl, rfl, rfl, rfl, rfl, rfl, rfl⟩ := h1
    obtain ⟨rfl, rfl, rfl, rfl, rfl, rfl, rfl, rfl⟩ := h2
    simp only [eK] at *
    go_wp2_with fail
    refine (sameZero_any _).mono ?_
    rintro e w1 ⟨rfl, hb1⟩
    have hW1 := below_call hW0 hb1 hW0.size
    clear hb1
    go_wp2
    go_ret
    exact ⟨rfl, hW1⟩
  | q r =>
    have H1 : Hid (RIs _ 0 _ n r) := hid h1
    have H2 : Hid (RIs _ 0 _ m r) := hid h2
    clear h1 h2
    simp only [eK] at *
    go_wp2_with fail
    refine (sameRat_any _ _ _ n m r r H1.out H2.out).mono ?_
    rintro e w1 ⟨rfl, hb1⟩
    have hW1 := below_call hW0 hb1 hW0.size
    rw [decide_eq_true rfl]
    clear hb1
    go_wp2
    go_ret
    exact ⟨rfl, hW1⟩

theorem text_p1 : str (textOf 1) = ⟨#[49]⟩ := by
  have h : decs 1 = [49] := (decs_eq (l := [49]) (by intro c hc; simp at hc; omega) (by simp) (by simp [decv])).symm
  have e : textOf 1 = [49] := by
    unfold textOf
    rw [if_neg (by omega), if_neg (by omega), show (1 : Int).natAbs = 1 from rfl, h]
    rfl
  rw [e]; rfl
theorem r12_num : (Rat.divInt 1 2).num = 1 := by rw [least_num _ _ (by omega)]; decide
theorem r12_den : ((Rat.divInt 1 2).den : Int) = 2 := by rw [least_den _ _ (by omega)]; decide
theorem r12_text : textR (Rat.divInt 1 2) = ⟨#[49, 47, 50]⟩ := by
  unfold textR
  rw [r12_num, r12_den, if_neg (by omega), text_p1, text_p2]
  rfl

set_option maxHeartbeats 3200000 in
theorem awake3_any (w : World) :
    Calls Try.prog 9 #[] w fun e w' => e = .returned (.bool true) ∧ Below w.heap.size w w' := by
  have E := RE.none w
  have HT := hid r12_text
  go_enter Try.func9, Try.ntmps9
  go_wp2_with fail
  refine (re_rof E 1 (by omega) (by omega)).mono ?_
  rintro e w1 ⟨n1, a1, k1, c1, rfl, E1⟩
  clear E
  go_wp2_with fail
  refine (re_rof E1 2 (by omega) (by omega)).mono ?_
  rintro e w2 ⟨n2, a2, k2, c2, rfl, E2⟩
  clear E1
  go_wp2_with fail
  refine (re_rquo E2 (List.Mem.tail _ (List.Mem.head _)) (List.Mem.head _) (by omega) (by omega) (by omega)).mono ?_
  rintro e w3 ⟨n3, a3, k3, c3, n4, a4, k4, c4, rfl, E3⟩
  clear E2
  have E4 := E3.alloc (.cells #[.bool n3, .slice a3 k3 c3, .bool n4, .slice a4 k4 c4] 29)
  have hW := E4.bl
  have HH := hid (E4.r _ (List.Mem.head _))
  clear E3 E4
  go_wp2_with fail
  generalize w3.alloc (.cells #[.bool n3, .slice a3 k3 c3, .bool n4, .slice a4 k4 c4] 29) = W at *
  generalize Rat.divInt 1 2 = h at *
  have e1 : EArg W (.agg #[.int .i64 (-1), .bool false, .slice none 0 0, .bool false, .slice none 0 0]) 4 .lo := ECnt.arg (x := .lo) ⟨rfl, rfl, rfl, rfl, rfl, rfl, rfl, rfl⟩
  have e2 : EArg W (.agg #[.int .i64 0, .bool n3, .slice a3 k3 c3, .bool n4, .slice a4 k4 c4]) 4 (.q h) := ECnt.arg (x := .q h) HH.out
  refine (extMax_any _ _ _ 4 .lo (.q h) e1 e2 (by omega)).mono ?_
  rw [show maxE .lo (.q h) = .q h from rfl]
  rintro e w5 ⟨m1, p1, j1, d1, m2, p2, j2, d2, rfl, hI, hb5⟩
  have hI2 : RIs w5 0 _ _ h := hI
  have bM : Box5 (w5.alloc (.cells #[.int .i64 0, .bool m1, .slice p1 j1 d1, .bool m2, .slice p2 j2 d2] 31)) w5.heap.size (.int .i64 0) (.bool m1) (.slice p1 j1 d1) (.bool m2) (.slice p2 j2 d2) := Box5.new _ _ _ _ _ _ _ rfl
  have hst : Below w5.heap.size w5 (w5.alloc (.cells #[.int .i64 0, .bool m1, .slice p1 j1 d1, .bool m2, .slice p2 j2 d2] 31)) := (Below.refl _ _).alloc (Nat.le_refl _) _
  have hW5 := below_call (below_call hW hb5 hW.size) hst (below_call hW hb5 hW.size).size
  have HI := hid (hI2.below hst)
  simp only [eK]
  clear hI hI2 hb5 hst e1 e2 HH hW
  go_wp2_with fail
  generalize w5.alloc (.cells #[.int .i64 0, .bool m1, .slice p1 j1 d1, .bool m2, .slice p2 j2 d2] 31) = W6 at *
  have e3 : EArg W6 (.agg #[.int .i64 0, .bool m1, .slice p1 j1 d1, .bool m2, .slice p2 j2 d2]) _ (.q h) := ECnt.arg (x := .q h) HI.out.arg
  refine (extText_any _ _ _ (.q h) e3 (by omega)).mono ?_
  rintro e w7 ⟨rfl, hb7⟩
  have hW7 := below_call hW5 hb7 hW5.size
  rw [show textE (.q h) = ⟨#[49, 47, 50]⟩ from HT.out]
  clear hb7 e3 HI bM
  go_wp2_with fail
  have e4 : EArg w7 (.agg #[.int .i64 (-1), .bool false, .slice none 0 0, .bool false, .slice none 0 0]) 4 .lo := ECnt.arg (x := .lo) ⟨rfl, rfl, rfl, rfl, rfl, rfl, rfl, rfl⟩
  refine (extText_any _ _ _ .lo e4 (by omega)).mono ?_
  rintro e w8 ⟨rfl, hb8⟩
  have hW8 := below_call hW7 hb8 hW7.size
  rw [show textE .lo = ⟨#[45, 105, 110, 102]⟩ from rfl]
  clear hb8
  go_wp2
  go_ret
  exact ⟨rfl, hW8⟩

end Go.Proofs.Ytalblhcfkfockaa

namespace Go.Proofs.Ytalblhcfkfockaa
open Go.RowKit Lm
set_option linter.unusedSimpArgs false
set_option linter.unusedVariables false
set_option maxRecDepth 100000

def GxRel (w : World) (L : List (Nat × Nat)) (iv : Value) (wr : World) : Prop := ∃ k : Nat, k ≤ L.length ∧ iv = .int .i64 k ∧ (∀ j (hj : j < L.length), j < k → L[j].1 ≤ 6 ∧ L[j].2 ≤ 6) ∧ Below w.heap.size w wr

set_option maxHeartbeats 1600000 in
theorem great3_any (w : World) (b cap : Nat) (L : List (Nat × Nat)) (hL : L.length ≤ 100) (hbw : b < w.heap.size) (hm : ∀ i (h : i < L.length), L[i].1 ≤ 9223372036854775807 ∧ L[i].2 ≤ 9223372036854775807)
    (hc : ∀ i (h : i < L.length), ∃ n1 a1 c1 n2 a2 c2, w.cell? ⟨b, i * 5 + 1, none⟩ = some (.bool n1) ∧ w.cell? ⟨b, i * 5 + 2, none⟩ = some (.slice a1 L[i].1 c1) ∧ w.cell? ⟨b, i * 5 + 3, none⟩ = some (.bool n2) ∧ w.cell? ⟨b, i * 5 + 4, none⟩ = some (.slice a2 L[i].2 c2)) :
    Calls Try.prog 8 #[.slice (some ⟨b, 0, none⟩) L.length cap] w fun e w' => e = .returned (.bool (greatR L)) ∧ Below w.heap.size w w' := by
  go_enter Try.func8, Try.ntmps8
  go_wp2
  go_loopw [3] (fun iv wr => GxRel w L iv wr) (fun iv wr => L.length - (intOf iv).toNat)
  case atStart => exact ⟨0, Nat.zero_le _, rfl, fun j hj hk => by omega, Below.refl _ _⟩
  case round =>
    obtain ⟨k, hk, rfl, hall, hbel⟩ := hrel
    have HA := hid hall
    clear hall
    by_cases hlt : k < L.length
    · obtain ⟨n1, a1, c1, n2, a2, c2, hc1, hc2, hc3, hc4⟩ := hc k hlt
      obtain ⟨hm1, hm2⟩ := hm k hlt
      have HY := hid (greatR_yes hlt)
      obtain ⟨p, hp⟩ : ∃ p, p = L[k] := ⟨_, rfl⟩
      have HP := hid hp
      rw [← hp] at hc2 hc4 hm1 hm2
      rw [← hp] at HY
      clear hp
      replace hc1 := ((bcell hbel).1 b _ hbw).trans hc1
      replace hc2 := ((bcell hbel).1 b _ hbw).trans hc2
      replace hc3 := ((bcell hbel).1 b _ hbw).trans hc3
      replace hc4 := ((bcell hbel).1 b _ hbw).trans hc4
      have hd2 : wr.cell? ⟨b, k * 5 + 1 + 1, none⟩ = _ := hc2
      have hd3 : wr.cell? ⟨b, k * 5 + 1 + 2, none⟩ = _ := hc3
      have hd4 : wr.cell? ⟨b, k * 5 + 1 + 3, none⟩ = _ := hc4
      go_wp2_with fail
      refine (great_r1 _ _ n1 n2 a1 a2 p.1 c1 p.2 c2 (by simp) hm1 hm2).mono ?_
      rintro e w1 ⟨rfl, rfl⟩
      have HB : Hid (Below w.heap.size w (wr.alloc (.cells #[.bool n1, .slice a1 p.1 c1, .bool n2, .slice a2 p.2 c2] 29))) := hid (hbel.alloc hbel.size _)
      clear hc1 hc2 hc3 hc4 hd2 hd3 hd4
      cases hG : greatR [(p.1, p.2)]
      · have HS : Hid (p.1 ≤ 6 ∧ p.2 ≤ 6) := hid (great_small hG _ (List.Mem.head _))
        clear hG
        go_wp2
        go_roundw
        case rel =>
          refine ⟨k + 1, by omega, by go_num, fun j hj hjk => ?_, HB.out⟩
          by_cases hjk2 : j = k
          · subst hjk2
            rw [← HP.out]
            exact HS.out
          · exact HA.out j hj (by omega)
        case measure => simp [intOf]; omega
      · have HS : Hid (6 < p.1 ∨ 6 < p.2) := hid (by simpa [greatR] using hG)
        clear hG
        go_wp2
        go_ret
        exact ⟨ret_bool (HY.out HS.out).symm, HB.out⟩
    · have HB := hid hbel
      go_wp2
      go_ret
      exact ⟨ret_bool (greatR_no (fun j hj => HA.out j hj (by omega))).symm, HB.out⟩

theorem great_x2 (W : World) (g : Nat) (k1 k2 : Int) (n1 n2 n3 n4 : Bool) (a1 a2 a3 a4 : Option Addr) (L1 c1 L2 c2 L3 c3 L4 c4 : Nat) (hg : W.heap.size = g) (h1 : L1 ≤ 9223372036854775807) (h2 : L2 ≤ 9223372036854775807) (h3 : L3 ≤ 9223372036854775807) (h4 : L4 ≤ 9223372036854775807) :
    Calls Try.prog 8 #[.slice (some ⟨g, 0, none⟩) 2 2] (W.alloc (.cells #[.int .i64 k1, .bool n1, .slice a1 L1 c1, .bool n2, .slice a2 L2 c2, .int .i64 k2, .bool n3, .slice a3 L3 c3, .bool n4, .slice a4 L4 c4] 31)) fun e w' => e = .returned (.bool (greatR [(L1, L2), (L3, L4)])) ∧ Below (W.alloc (.cells #[.int .i64 k1, .bool n1, .slice a1 L1 c1, .bool n2, .slice a2 L2 c2, .int .i64 k2, .bool n3, .slice a3 L3 c3, .bool n4, .slice a4 L4 c4] 31)).heap.size (W.alloc (.cells #[.int .i64 k1, .bool n1, .slice a1 L1 c1, .bool n2, .slice a2 L2 c2, .int .i64 k2, .bool n3, .slice a3 L3 c3, .bool n4, .slice a4 L4 c4] 31)) w' := by
  subst hg
  have hh : (W.alloc (.cells #[.int .i64 k1, .bool n1, .slice a1 L1 c1, .bool n2, .slice a2 L2 c2, .int .i64 k2, .bool n3, .slice a3 L3 c3, .bool n4, .slice a4 L4 c4] 31)).heap[W.heap.size]? = some (.cells #[.int .i64 k1, .bool n1, .slice a1 L1 c1, .bool n2, .slice a2 L2 c2, .int .i64 k2, .bool n3, .slice a3 L3 c3, .bool n4, .slice a4 L4 c4] 31 (0, 0)) := heap_alloc_new W _
  refine great3_any _ W.heap.size 2 [(L1, L2), (L3, L4)] (by simp) (by simp) (fun i hi => ?_) (fun i hi => ?_)
  · simp at hi
    rcases (show i = 0 ∨ i = 1 by omega) with rfl | rfl
    · exact ⟨h1, h2⟩
    · exact ⟨h3, h4⟩
  · simp at hi
    rcases (show i = 0 ∨ i = 1 by omega) with rfl | rfl
    · exact ⟨n1, a1, c1, n2, a2, c2, by rw [cell_of_row _ _ _ _ _ _ hh]; rfl, by rw [cell_of_row _ _ _ _ _ _ hh]; rfl, by rw [cell_of_row _ _ _ _ _ _ hh]; rfl, by rw [cell_of_row _ _ _ _ _ _ hh]; rfl⟩
    · exact ⟨n3, a3, c3, n4, a4, c4, by rw [cell_of_row _ _ _ _ _ _ hh]; rfl, by rw [cell_of_row _ _ _ _ _ _ hh]; rfl, by rw [cell_of_row _ _ _ _ _ _ hh]; rfl, by rw [cell_of_row _ _ _ _ _ _ hh]; rfl⟩

theorem earg_mk {W : World} {k : Int} {n1 n2 : Bool} {a1 a2 : Option Addr} {c1 c2 : Nat} {l1 l2 : List Nat} (h1 : SlAt W a1 c1 l1) (h2 : SlAt W a2 c2 l2) : ∀ n, l1.length ≤ n → l2.length ≤ n → EArg W (.agg #[.int .i64 k, .bool n1, .slice a1 l1.length c1, .bool n2, .slice a2 l2.length c2]) n (extMean k n1 l1 n2 l2) :=
  fun n q1 q2 => ⟨k, n1, a1, c1, l1, n2, a2, c2, l2, rfl, h1, h2, q1, q2, rfl⟩

theorem extCmp_V (w : World) (u v : Value) (n m : Nat) (x y : EX) (c : Int) (hu : EArg w u n x) (hv : EArg w v m y) (hc : cmpE x y = c) (hn : n ≤ 40000) (hm : m ≤ 40000) :
    Calls Try.prog 12 #[u, v] w fun e w' => e = .returned (.int .i64 c) ∧ Below w.heap.size w w' := by
  subst hc
  exact extCmp_any w u v n m x y hu hv hn hm

end Go.Proofs.Ytalblhcfkfockaa

namespace Go.Proofs.Ytalblhcfkfockaa
open Go.RowKit Lm
set_option linter.unusedSimpArgs false
set_option linter.unusedVariables false
set_option maxRecDepth 100000

/-- A value that has been told. -/
def EF (w : World) (v : Value) (n : Nat) (x : EX) : Prop := ∃ m1 p1 j1 d1 m2 p2 j2 d2, v = .agg #[.int .i64 (eK x), .bool m1, .slice p1 j1 d1, .bool m2, .slice p2 j2 d2] ∧ EIs w n m1 p1 j1 d1 m2 p2 j2 d2 x
theorem EF.below {w w' : World} {v : Value} {n : Nat} {x : EX} (h : EF w v n x) (hb : Below w.heap.size w w') : EF w' v n x := by
  obtain ⟨m1, p1, j1, d1, m2, p2, j2, d2, e, h⟩ := h
  exact ⟨m1, p1, j1, d1, m2, p2, j2, d2, e, h.below hb⟩
theorem EF.arg {w : World} {v : Value} {n : Nat} {x : EX} (h : EF w v n x) : EArg w v n x := by
  obtain ⟨m1, p1, j1, d1, m2, p2, j2, d2, rfl, h⟩ := h
  exact h.cnt.arg
theorem EArg.mono {w : World} {v : Value} {n m : Nat} {x : EX} (h : EArg w v n x) (hm : n ≤ m) : EArg w v m x := by
  obtain ⟨k, n1, a1, c1, l1, n2, a2, c2, l2, e, h1, h2, h3, h4, hr⟩ := h
  exact ⟨k, n1, a1, c1, l1, n2, a2, c2, l2, e, h1, h2, by omega, by omega, hr⟩
theorem ef_lo (w : World) (n : Nat) : EF w (.agg #[.int .i64 (-1), .bool false, .slice none 0 0, .bool false, .slice none 0 0]) n .lo := ⟨false, none, 0, 0, false, none, 0, 0, rfl, rfl, rfl, rfl, rfl, rfl, rfl, rfl, rfl⟩
theorem ef_hi (w : World) (n : Nat) : EF w (.agg #[.int .i64 1, .bool false, .slice none 0 0, .bool false, .slice none 0 0]) n .hi := ⟨false, none, 0, 0, false, none, 0, 0, rfl, rfl, rfl, rfl, rfl, rfl, rfl, rfl, rfl⟩

structure XE (U W : World) (KR : List (Value × Nat × Rat)) (KE KF : List (Value × Nat × EX)) : Prop where
  r : ∀ p ∈ KR, RArg W p.1 p.2.1 p.2.2
  e : ∀ p ∈ KE, EArg W p.1 p.2.1 p.2.2
  f : ∀ p ∈ KF, EF W p.1 p.2.1 p.2.2
  bl : Below U.heap.size U W
variable {U W W' : World} {KR : List (Value × Nat × Rat)} {KE KF : List (Value × Nat × EX)} {u v : Value} {n m : Nat} {x y : EX} {t : Rat} {c : Int}
theorem xe_none (W : World) : XE W W [] [] [] := ⟨by simp, by simp, by simp, Below.refl _ _⟩
theorem XE.step (E : XE U W KR KE KF) (hb : Below W.heap.size W W') : XE U W' KR KE KF :=
  ⟨fun p hp => (E.r p hp).below hb, fun p hp => (E.e p hp).below hb, fun p hp => (E.f p hp).below hb, below_call E.bl hb E.bl.size⟩
theorem XE.drew (E : XE U W KR KE KF) : XE U W.drew KR KE KF := E.step (Below.refl _ _).drew
theorem XE.alloc (E : XE U W KR KE KF) (o : Obj) : XE U (W.alloc o) KR KE KF := E.step ((Below.refl _ _).alloc (Nat.le_refl _) o)
theorem XE.rebase (E : XE U W KR KE KF) : XE W W KR KE KF := ⟨E.r, E.e, E.f, Below.refl _ _⟩
theorem XE.knowR (E : XE U W KR KE KF) (h : RArg W v n t) : XE U W ((v, n, t) :: KR) KE KF := by
  refine ⟨fun p hp => ?_, E.e, E.f, E.bl⟩
  rcases List.mem_cons.1 hp with rfl | h'
  · exact h
  · exact E.r p h'
theorem XE.knowE (E : XE U W KR KE KF) (h : EArg W v n x) : XE U W KR ((v, n, x) :: KE) KF := by
  refine ⟨E.r, fun p hp => ?_, E.f, E.bl⟩
  rcases List.mem_cons.1 hp with rfl | h'
  · exact h
  · exact E.e p h'
theorem XE.knowF (E : XE U W KR KE KF) (h : EF W v n x) : XE U W KR ((v, n, x) :: KE) ((v, n, x) :: KF) := by
  have E2 := E.knowE h.arg
  refine ⟨E2.r, E2.e, fun p hp => ?_, E2.bl⟩
  rcases List.mem_cons.1 hp with rfl | h'
  · exact h
  · exact E.f p h'
def SaysX (U : World) (KR : List (Value × Nat × Rat)) (KE KF : List (Value × Nat × EX)) (n : Nat) (x : EX) (e : Ending) (w' : World) : Prop :=
  ∃ m1 p1 j1 d1 m2 p2 j2 d2, e = .returned (.agg #[.int .i64 (eK x), .bool m1, .slice p1 j1 d1, .bool m2, .slice p2 j2 d2]) ∧ XE U w' KR ((.agg #[.int .i64 (eK x), .bool m1, .slice p1 j1 d1, .bool m2, .slice p2 j2 d2], n, x) :: KE) ((.agg #[.int .i64 (eK x), .bool m1, .slice p1 j1 d1, .bool m2, .slice p2 j2 d2], n, x) :: KF)
theorem saysX_of {e : Ending} (E : XE U W KR KE KF) (h : ETold n x W e W') : SaysX U KR KE KF n x e W' := by
  obtain ⟨m1, p1, j1, d1, m2, p2, j2, d2, rfl, hI, hb⟩ := h
  exact ⟨m1, p1, j1, d1, m2, p2, j2, d2, rfl, (E.step hb).knowF ⟨m1, p1, j1, d1, m2, p2, j2, d2, rfl, hI⟩⟩
theorem xe_cmpV (E : XE U W KR KE KF) (hu : (u, n, x) ∈ KE) (hv : (v, m, y) ∈ KE) (hc : cmpE x y = c) (hn : n ≤ 40000) (hm : m ≤ 40000) : Calls Try.prog 12 #[u, v] W fun e w' => e = .returned (.int .i64 c) ∧ XE U w' KR KE KF := by
  refine (extCmp_V W u v n m x y c (E.e _ hu) (E.e _ hv) hc hn hm).mono ?_
  rintro e w' ⟨rfl, hb⟩
  exact ⟨rfl, E.step hb⟩
theorem xe_cmp (E : XE U W KR KE KF) (hu : (u, n, x) ∈ KE) (hv : (v, m, y) ∈ KE) (hn : n ≤ 40000) (hm : m ≤ 40000) : Calls Try.prog 12 #[u, v] W fun e w' => e = .returned (.int .i64 (cmpE x y)) ∧ XE U w' KR KE KF := xe_cmpV E hu hv rfl hn hm
theorem xe_add (E : XE U W KR KE KF) (hu : (u, n, x) ∈ KE) (hv : (v, m, t) ∈ KR) (hn : n ≤ 10000) (hm : m ≤ 10000) : Calls Try.prog 41 #[u, v] W (SaysX U KR KE KF (4 * n + 4 * m + 18) (addE x t)) :=
  (extAdd_any W u v n m x t (E.e _ hu) (E.r _ hv) hn hm).mono fun _ _ h => saysX_of E h
theorem xe_max (E : XE U W KR KE KF) (hu : (u, n, x) ∈ KE) (hv : (v, n, y) ∈ KE) (hn : n ≤ 10000) : Calls Try.prog 10 #[u, v] W (SaysX U KR KE KF (4 * n + 18) (maxE x y)) :=
  (extMax_any W u v n x y (E.e _ hu) (E.e _ hv) hn).mono fun _ _ h => saysX_of E h
theorem xe_min (E : XE U W KR KE KF) (hu : (u, n, x) ∈ KE) (hv : (v, n, y) ∈ KE) (hn : n ≤ 10000) : Calls Try.prog 11 #[u, v] W (SaysX U KR KE KF (4 * n + 18) (minE x y)) :=
  (extMin_any W u v n x y (E.e _ hu) (E.e _ hv) hn).mono fun _ _ h => saysX_of E h
theorem xe_same (E : XE U W KR KE KF) (hu : (u, n, x) ∈ KF) (hv : (v, m, y) ∈ KF) (h : x = y) : Calls Try.prog 13 #[u, v] W fun e w' => e = .returned (.bool true) ∧ XE U w' KR KE KF := by
  subst h
  obtain ⟨m1, p1, j1, d1, m2, p2, j2, d2, e1, h1⟩ := E.f _ hu
  obtain ⟨m3, p3, j3, d3, m4, p4, j4, d4, e2, h2⟩ := E.f _ hv
  simp only at e1 e2
  subst e1 e2
  refine (sameExt_any W x n m m1 p1 j1 d1 m2 p2 j2 d2 m3 p3 j3 d3 m4 p4 j4 d4 h1 h2).mono ?_
  rintro e w' ⟨rfl, hb⟩
  exact ⟨rfl, E.step hb⟩
theorem xe_awake (E : XE U W KR KE KF) : Calls Try.prog 9 #[] W fun e w' => e = .returned (.bool true) ∧ XE U w' KR KE KF := by
  refine (awake3_any W).mono ?_
  rintro e w' ⟨rfl, hb⟩
  exact ⟨rfl, E.step hb⟩

end Go.Proofs.Ytalblhcfkfockaa
