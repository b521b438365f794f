/-
  Plain mathematics of decimal digits: the lowest digit first, as bytes.
  Walks: the digits of a number.
  Walks: bytes turned round; the text of a number.
  Walks: quotients by one limb; Div over what is known of divLimbs.
  Walks: Div, over what is known of divLimbs.
  Walks: the document's examples.
-/
import Derived.Test.YtogdchddmjokmaaGreatDoorWA
import Derived.Laws.BytesArg
import Derived.Deep.RegionWith

namespace Go.Proofs.YtogdchddmjokmaaGreatDoor.Lm
set_option linter.unusedVariables false
set_option maxRecDepth 100000

def decv : List Nat → Nat
  | [] => 0
  | c :: r => (c - 48) + 10 * decv r

def p10 : Nat → Nat
  | 0 => 1
  | k + 1 => 10 * p10 k

def dig (l : List Nat) : Prop := ∀ c ∈ l, 48 ≤ c ∧ c ≤ 57

def decsF : Nat → Nat → List Nat
  | 0, _ => []
  | f + 1, n => if n = 0 then [] else (48 + n % 10) :: decsF f (n / 10)

/-- The digits of n, the lowest first; of nought none. -/
def decs (n : Nat) : List Nat := decsF (n + 1) n

/-- The bytes that tell z. -/
def textOf (z : Int) : List Nat := if z = 0 then [48] else (if z < 0 then [45] else []) ++ (decs z.natAbs).reverse

theorem dig_cons {c : Nat} {r : List Nat} : dig (c :: r) ↔ (48 ≤ c ∧ c ≤ 57) ∧ dig r := by unfold dig; simp
theorem dig_append {a b : List Nat} : dig (a ++ b) ↔ dig a ∧ dig b := by
  unfold dig
  constructor
  · intro h; exact ⟨fun x hx => h x (by simp [hx]), fun x hx => h x (by simp [hx])⟩
  · intro h x hx
    rcases List.mem_append.1 hx with h1 | h1
    · exact h.1 x h1
    · exact h.2 x h1
theorem dig_take {l : List Nat} (h : dig l) (k : Nat) : dig (l.take k) := fun x hx => h x (List.mem_of_mem_take hx)
theorem p10_pos (k : Nat) : 0 < p10 k := by
  induction k with
  | zero => simp [p10]
  | succ k ih => simp only [p10]; omega
theorem p10_add (a b : Nat) : p10 (a + b) = p10 a * p10 b := by
  induction a with
  | zero => simp [p10]
  | succ a ih => rw [Nat.succ_add]; simp only [p10]; rw [ih, Nat.mul_assoc]
theorem p10_mono {a b : Nat} (h : a ≤ b) : p10 a ≤ p10 b := by
  obtain ⟨c, rfl⟩ := Nat.exists_eq_add_of_le h
  rw [p10_add]
  exact Nat.le_mul_of_pos_right _ (p10_pos _)
theorem decv_append (a b : List Nat) : decv (a ++ b) = decv a + p10 a.length * decv b := by
  induction a with
  | nil => simp [decv, p10]
  | cons x r ih =>
    simp only [List.cons_append, decv, List.length_cons, p10]
    rw [ih, Nat.mul_add, ← Nat.mul_assoc]
    omega
theorem decv_pos {l : List Nat} (hd : dig l) (hc : l.getLast? ≠ some 48) (hne : l ≠ []) : l.length ≤ decv l := by
  induction l with
  | nil => simp at hne
  | cons c r ih =>
    have h1 := dig_cons.1 hd
    by_cases hr : r = []
    · subst hr
      simp at hc
      simp only [decv, List.length_cons, List.length_nil]
      omega
    · have h2 := ih h1.2 (by
        intro h; apply hc
        rw [List.getLast?_cons, h]; rfl) hr
      have h3 : 0 < r.length := by
        cases r with
        | nil => simp at hr
        | cons a b => simp
      simp only [decv, List.length_cons]
      omega
theorem decsF_eq {l : List Nat} (hd : dig l) (hc : l.getLast? ≠ some 48) (f : Nat) (hf : l.length ≤ f) : decsF f (decv l) = l := by
  induction l generalizing f with
  | nil => cases f <;> simp [decsF, decv]
  | cons c r ih =>
    have h1 := dig_cons.1 hd
    have hp := decv_pos hd hc (by simp)
    cases f with
    | zero => simp at hf
    | succ f =>
      simp only [List.length_cons] at hf hp
      have hcr : r.getLast? ≠ some 48 := by
        intro h; apply hc
        rw [List.getLast?_cons, h]; rfl
      have e1 : decv (c :: r) % 10 = c - 48 := by simp only [decv]; omega
      have e2 : decv (c :: r) / 10 = decv r := by simp only [decv]; omega
      simp only [decsF]
      rw [if_neg (by omega), e1, e2, ih h1.2 hcr f (by omega)]
      congr 1
      omega
theorem decs_eq {l : List Nat} {n : Nat} (hd : dig l) (hc : l.getLast? ≠ some 48) (hn : decv l = n) : l = decs n := by
  subst hn
  unfold decs
  by_cases h : l = []
  · subst h; rfl
  · rw [decsF_eq hd hc _ (by have := decv_pos hd hc h; omega)]
theorem decv_zero {l : List Nat} (h : ∀ c ∈ l, c = 48) : decv l = 0 := by
  induction l with
  | nil => rfl
  | cons c r ih =>
    have := h c (by simp)
    simp only [decv]
    rw [ih (fun x hx => h x (by simp [hx]))]
    omega
theorem decv_take (l : List Nat) (k : Nat) (h : ∀ j, k ≤ j → j < l.length → l.getD j 0 = 48) : decv (l.take k) = decv l := by
  conv => rhs; rw [← List.take_append_drop k l, decv_append]
  rw [decv_zero (l := l.drop k)]
  · simp
  · intro c hc
    obtain ⟨j, hj, rfl⟩ := List.getElem_of_mem hc
    simp only [List.length_drop] at hj
    have := h (k + j) (by omega) (by omega)
    rw [List.getD_eq_getElem?_getD, List.getElem?_eq_getElem (by omega)] at this
    simpa using this
theorem last_take {l : List Nat} {k : Nat} (hk : k ≤ l.length) (h : k = 0 ∨ l.getD (k - 1) 0 ≠ 48) : (l.take k).getLast? ≠ some 48 := by
  rcases h with h | h
  · subst h; simp
  · by_cases h0 : k = 0
    · subst h0; simp
    · rw [List.getLast?_eq_getElem?]
      simp only [List.length_take, List.getElem?_take]
      rw [show min k l.length - 1 = k - 1 by omega, if_pos (by omega)]
      intro h1
      apply h
      rw [List.getD_eq_getElem?_getD, h1]; rfl
theorem decv_snoc (D : List Nat) (c : Nat) (h : 48 ≤ c) : decv (D ++ [c]) = decv D + p10 D.length * (c - 48) := by
  rw [decv_append]; simp [decv]

/-- One digit more: what is told, and what is left. -/
theorem dec_step (D : List Nat) (low v j : Nat) (hj : j < 9) :
    decv (D ++ [48 + low % 10]) + p10 (D ++ [48 + low % 10]).length * (low / 10 + p10 (9 - (j + 1)) * v) = decv D + p10 D.length * (low + p10 (9 - j) * v) := by
  rw [decv_snoc _ _ (by omega), List.length_append, p10_add]
  have e : p10 (9 - j) = 10 * p10 (9 - (j + 1)) := by rw [show 9 - j = (9 - (j + 1)) + 1 by omega]; rfl
  rw [e]
  have e1 : p10 [48 + low % 10].length = 10 := rfl
  rw [e1, show 48 + low % 10 - 48 = low % 10 by omega]
  generalize p10 D.length = P
  generalize p10 (9 - (j + 1)) = R
  have e2 : P * 10 * (low / 10 + R * v) = P * (10 * (low / 10) + 10 * (R * v)) := by rw [Nat.mul_assoc, Nat.mul_add]
  rw [e2, Nat.add_assoc, ← Nat.mul_add, Nat.mul_assoc 10 R v]
  congr 2
  omega
theorem p10_low {low j : Nat} (hj : j < 9) (h : low < p10 (9 - j)) : low / 10 < p10 (9 - (j + 1)) := by
  rw [show 9 - j = (9 - (j + 1)) + 1 by omega] at h
  simp only [p10] at h
  omega

/-- How many rounds there can be. -/
theorem rounds_le {k L v N : Nat} (hv : 0 < v) (h : v * 2 ^ k ≤ N) (hN : N < pw L) : k ≤ 32 * L := by
  have h1 : 2 ^ k ≤ v * 2 ^ k := Nat.le_mul_of_pos_left _ hv
  have h2 : pw L = 2 ^ (32 * L) := by
    clear h h1 hN
    induction L with
    | zero => rfl
    | succ L ih => simp only [pw]; rw [ih, Nat.mul_succ, Nat.pow_add]; omega
  have h3 : 2 ^ k < 2 ^ (32 * L) := by omega
  have := (Nat.pow_lt_pow_iff_right (by omega)).1 h3
  omega

end Go.Proofs.YtogdchddmjokmaaGreatDoor.Lm

namespace Go.Proofs.YtogdchddmjokmaaGreatDoor
open Go.RowKit Lm
set_option linter.unusedSimpArgs false
set_option linter.unusedVariables false
set_option maxRecDepth 100000

/-- Bytes as cells. -/
def Bs (l : List Nat) : List Value := l.map (fun (x : Nat) => Value.int .u8 (x : Int))
theorem bs_length (l : List Nat) : (Bs l).length = l.length := by simp [Bs]
theorem bs_append (a b : List Nat) : Bs (a ++ b) = Bs a ++ Bs b := by simp [Bs]
theorem bs_one (l : List Nat) : ∀ v ∈ Bs l, v.oneCell' = true := by
  intro v hv
  obtain ⟨_, _, rfl⟩ := List.mem_map.1 hv
  rfl

/-- A slice that reads as these bytes. -/
def SlB (w : World) (ao : Option Addr) (cap : Nat) (l : List Nat) : Prop :=
  l.length ≤ cap ∧ cap ≤ maxLen ∧ ((ao = none ∧ cap = 0) ∨ ∃ b off, ao = some ⟨b, off, none⟩ ∧ b < w.heap.size ∧ ∀ i, i < l.length → w.cell? ⟨b, off + i, none⟩ = some (.int .u8 ((l.getD i 0 : Nat) : Int)))

theorem Tryz.info8 : (Tryz.prog.info? 5).map (fun i => (i.zero, i.size, i.bytes)) = some (some (.int .u8 0), 1, 1) := by kernel_rfl

theorem own_slB {w : World} {base : Nat} {ao : Option Addr} {cap : Nat} {l : List Nat} (h : w.ownsRow base 5 1 (.slice ao l.length cap) l.length (Bs l)) : SlB w ao cap l := by
  rcases h.2 with ⟨h', h0⟩ | ⟨g, cap', cur, h', hbg, hg, hnc, hcm, hcs, htake⟩
  · simp only [Value.slice.injEq] at h'
    obtain ⟨rfl, _, rfl⟩ := h'
    exact ⟨by omega, by unfold maxLen; omega, .inl ⟨rfl, rfl⟩⟩
  · have hh := h
    simp only [Value.slice.injEq, true_and] at h'
    obtain ⟨rfl, rfl⟩ := h'
    refine ⟨hnc, hcm, .inr ⟨g, 0, rfl, (Array.getElem?_eq_some_iff.1 hg).1, fun i hi => ?_⟩⟩
    rw [Nat.zero_add, hh.cellAt i (by omega)]
    simp [Bs, List.getD_eq_getElem?_getD, hi]
theorem ownB_shape {w : World} {base : Nat} {v : Value} {n : Nat} {xs : List Value} (h : w.ownsRow base 5 1 v n xs) : ∃ ao cap, v = .slice ao n cap ∧ From base ao := by
  rcases h.2 with ⟨rfl, rfl⟩ | ⟨g, cap, cur, rfl, hb, _⟩
  · exact ⟨none, 0, rfl, fun ad e => by simp at e⟩
  · exact ⟨_, cap, rfl, from_row _ _ _ hb⟩

theorem own_take {w : World} {base : Nat} {ao : Option Addr} {cap n : Nat} {D : List Nat} (h : w.ownsRow base 5 1 (.slice ao D.length cap) D.length (Bs D)) (hn : n ≤ D.length) :
    w.ownsRow base 5 1 (.slice ao n cap) n (Bs (D.take n)) := by
  refine ⟨by rw [bs_length, take_len hn, Nat.mul_one], ?_⟩
  rcases h.2 with ⟨h', h0⟩ | ⟨g, cap', cur, h', hbg, hg, hnc, hcm, hcs, htake⟩
  · simp only [Value.slice.injEq] at h'
    obtain ⟨rfl, _, rfl⟩ := h'
    have : n = 0 := by omega
    subst this
    exact .inl ⟨rfl, rfl⟩
  · simp only [Value.slice.injEq, true_and] at h'
    obtain ⟨rfl, rfl⟩ := h'
    refine .inr ⟨g, cap, cur, rfl, hbg, hg, by omega, hcm, hcs, ?_⟩
    have : cur.toList.take (n * 1) = (cur.toList.take (D.length * 1)).take (n * 1) := by
      rw [List.take_take, Nat.min_eq_left (by omega)]
    rw [this, htake]
    simp [Bs, List.map_take]
theorem RowAt.pre {w : World} {g cap : Nat} {A T : List Nat} (h : RowAt w g (A ++ T)) (hok : ok A) (hc : A.length ≤ cap) (hm : cap ≤ 1000000000) : SlAt w (some ⟨g, 0, none⟩) cap A := by
  refine ⟨hok, hc, by unfold maxLen; omega, .inr ⟨g, 0, rfl, h.lt, fun i hi => ?_⟩⟩
  rw [Nat.zero_add, h.cell i (by rw [List.length_append]; omega), getD_append hi]

set_option maxHeartbeats 400000 in
theorem noughts_any (w : World) (ao : Option Addr) (cap : Nat) (l : List Nat) (h : SlB w ao cap l) :
    Calls Tryz.prog 67 #[.slice ao l.length cap] w fun e w' => ∃ n, e = .returned (.slice ao n cap) ∧ w' = w ∧ n ≤ l.length ∧ (l.take n).getLast? ≠ some 48 ∧ decv (l.take n) = decv l := by
  obtain ⟨hlc, hcm, hs⟩ := h
  unfold maxLen at hcm
  rcases hs with ⟨rfl, rfl⟩ | ⟨b, off, rfl, hlt, hc⟩
  · have hl0 : l.length = 0 := by omega
    go_enter Tryz.func67, Tryz.ntmps67
    go_wp2
    go_loop [3] (fun i => i = .int .i64 0) (fun i => (intOf i).toNat)
    case atStart => rfl
    case round =>
      subst hrel
      go_wp2
      go_ret
      exact ⟨0, rfl, rfl, by simp, by simp, by rw [List.eq_nil_of_length_eq_zero hl0]; rfl⟩
  · go_enter Tryz.func67, Tryz.ntmps67
    go_wp2
    go_loop [3] (fun i => ∃ n : Nat, n ≤ l.length ∧ i = .int .i64 n ∧ ∀ j, n ≤ j → j < l.length → l.getD j 0 = 48) (fun i => (intOf i).toNat)
    case atStart => exact ⟨l.length, Nat.le_refl _, rfl, fun j hj hl => by omega⟩
    case round =>
      obtain ⟨n, hn, rfl, hz⟩ := hrel
      by_cases h0 : n = 0
      · subst h0
        have HZ := hid hz
        clear hz
        go_wp2
        go_ret
        exact ⟨0, rfl, rfl, by simp, by simp, decv_take l 0 HZ.out⟩
      · have hcc := hc (n - 1) (by omega)
        have HZ := hid hz
        clear hz
        go_wp2
        · go_round
          case rel =>
            refine ⟨n - 1, by omega, by go_num, fun j hj hl => ?_⟩
            by_cases hj1 : j = n - 1
            · subst hj1
              have h1 : (((l[n - 1]?.getD 0 : Nat) : Int) == 48) = true := by assumption
              rw [List.getD_eq_getElem?_getD]
              simp at h1
              omega
            · exact HZ.out j (by omega) hl
          case measure => simp [intOf]; omega
        · have h1 : (((l[n - 1]?.getD 0 : Nat) : Int) == 48) = false := by assumption
          have h2 : l.getD (n - 1) 0 ≠ 48 := by
            rw [List.getD_eq_getElem?_getD]
            simp at h1
            omega
          go_ret
          exact ⟨n, rfl, rfl, hn, last_take hn (.inr h2), decv_take l n HZ.out⟩

/-- What stands at the head of an outer round of digitsOf. -/
def DigRel (w : World) (L N m : Nat) (rv dv : Value) (wr : World) : Prop :=
  ∃ (k : Nat) (A T D : List Nat), m = val A ∧ rv = .slice (some ⟨w.heap.size, 0, none⟩) A.length L ∧ A.length ≤ L ∧ RowAt wr w.heap.size (A ++ T) ∧ ok A ∧ canon A ∧
    wr.ownsRow (w.heap.size + 1) 5 1 dv D.length (Bs D) ∧ dig D ∧ D.length = 9 * k ∧ D.length ≤ 288 * L + 9 ∧ val A * 2 ^ k ≤ N ∧ decv D + p10 D.length * val A = N ∧ Below w.heap.size w wr

/-- What stands at the head of an inner round. -/
def DigIn (w : World) (L N k : Nat) (A T : List Nat) (dv lv iv : Value) (wr : World) : Prop :=
  ∃ (j low : Nat) (D : List Nat), j ≤ 9 ∧ iv = .int .i64 j ∧ lv = .int .u32 (low : Int) ∧ low < p10 (9 - j) ∧ RowAt wr w.heap.size (A ++ T) ∧
    wr.ownsRow (w.heap.size + 1) 5 1 dv D.length (Bs D) ∧ dig D ∧ D.length = 9 * k + j ∧ decv D + p10 D.length * (low + p10 (9 - j) * val A) = N ∧ Below w.heap.size w wr

set_option maxHeartbeats 1600000 in
theorem digitsOf_any (w : World) (ao : Option Addr) (cap : Nat) (l : List Nat) (h : SlAt w ao cap l) (hl : l.length ≤ 1000000) (hcl : canon l) :
    Calls Tryz.prog 46 #[.slice ao l.length cap] w fun e w' => ∃ (D : List Nat) (ao' : Option Addr) (cap' : Nat), e = .returned (.slice ao' D.length cap') ∧ w'.ownsRow (w.heap.size + 1) 5 1 (.slice ao' D.length cap') D.length (Bs D) ∧ D = decs (val l) ∧ D.length ≤ 300000000 ∧ Below w.heap.size w w' := by
  obtain ⟨i0, hi, hz0, hz1, hz2⟩ := info_parts Tryz.info8
  go_enter Tryz.func46, Tryz.ntmps46
  go_wp2_with fail
  refine (copied_any _ ao cap l h hl).mono ?_
  rintro e w1 ⟨rfl, hrow, hb1⟩
  have hok := h.1
  have hN := val_lt hok
  clear h
  go_wp2_with fail
  go_loopg [3, 4] (val l) (fun m rv dv wr => DigRel w l.length (val l) m rv dv wr)
  case atStart => exact ⟨0, l, [], [], rfl, rfl, Nat.le_refl _, by rw [List.append_nil]; exact hrow, hok, hcl, World.ownsRow_nil _ _ _ _, by intro c hc; simp at hc, rfl, by simp, by simp, by simp [decv, p10], hb1⟩
  case round =>
    obtain ⟨k, A, T, D, hgk, rfl, hAL, hr, hokA, hcA, hown, hD, hDl, hDb, hvk, hsum, hb⟩ := hrel
    have HGK := hid hgk
    have HDL := hid hDl
    have HS := hid hsum
    have HVK := hid hvk
    have HD := hid hD
    clear hgk hDl hsum hvk hD hrow hb1
    by_cases hA0 : A.length = 0
    · obtain ⟨ao2, cap2, rfl, hfr⟩ := ownB_shape hown
      have hv0 : val A = 0 := by rw [List.eq_nil_of_length_eq_zero hA0]; rfl
      have HS2 : Hid (decv D = val l) := hid (by have := HS.out; rw [hv0] at this; simpa using this)
      clear HS HGK HVK hv0
      rw [hA0]
      go_wp2_with fail
      refine (noughts_any _ ao2 cap2 D (own_slB hown)).mono ?_
      rintro e w3 ⟨n, rfl, rfl, hn, hlast, hdv⟩
      have hown2 := own_take hown hn
      have HX := hid (decs_eq (dig_take HD.out n) hlast (hdv.trans HS2.out))
      clear hown
      go_wp2
      go_ret
      refine ⟨D.take n, ao2, cap2, ?_, ?_, HX.out, ?_, hb⟩
      · rw [take_len hn]; rfl
      · rw [take_len hn]; exact hown2
      · rw [take_len hn]; omega
    · have hvA : 0 < val A := by
        have h1 := canon_pos hcA (by intro e; subst e; simp at hA0)
        have h2 := pw_pos (A.length - 1)
        omega
      have hkL : k ≤ 32 * l.length := rounds_le hvA HVK.out hN
      obtain ⟨d9, hd9⟩ : ∃ d : Nat, d = p10 9 := ⟨_, rfl⟩
      have hd1 : 0 < d9 := by rw [hd9]; exact p10_pos 9
      have hd2 : d9 < 4294967296 := by rw [hd9]; simp [p10]
      have HD3 : Hid ((1000000000 : Int) = (d9 : Int)) := hid (by rw [hd9]; simp [p10])
      have HD9 := hid hd9
      clear hd9
      go_wp2_with fail
      have hq : A.length ≤ 1000000 := by omega
      refine (divInto_any _ _ _ A T d9 hr hokA hq hAL hd1 hd2 1000000000 HD3.out).mono ?_
      rintro e w2 ⟨A1, r, rfl, hr1, hl1, hok1, hv1, hrlt, hgr⟩
      have HL1 := hid hl1
      have hown1 : w2.ownsRow (w.heap.size + 1) 5 1 _ D.length (Bs D) := hown.kept hgr (by right; intro e; have := (hown.lt _ e).1; omega)
      have hb2 : Below w.heap.size w w2 := hb.grown hgr hb.size (by simp)
      have hl1' : A1.length ≤ l.length := by omega
      have HV1 := hid hv1
      clear hv1 hown hr hb hgr hl1
      go_wp2_with fail
      rw [← HL1.out]
      have hq2 : l.length ≤ 1000000000 := by omega
      refine (trimmed_any _ (some ⟨w.heap.size, 0, none⟩) l.length A1 (RowAt.pre hr1 hok1 hl1' hq2)).mono ?_
      rintro e w3 ⟨n, rfl, rfl, hn, hcn, hvn⟩
      have hr3 : RowAt w3 w.heap.size (A1.take n ++ (A1.drop n ++ T)) := by rw [← List.append_assoc, List.take_append_drop]; exact hr1
      have HVN := hid hvn
      clear hvn hr1
      go_wp2_with fail
      go_loopw [4, 5, 15] (fun dv lv iv wr => DigIn w l.length (val l) k (A1.take n) (A1.drop n ++ T) dv lv iv wr) (fun _ _ iv _ => 9 - (intOf iv).toNat)
      case atStart => 
        refine ⟨0, r, D, by omega, rfl, rfl, by rw [← HD9.out]; exact hrlt, hr3, hown1, HD.out, by rw [HDL.out]; rfl, ?_, hb2⟩
        rw [← HS.out, HV1.out, HVN.out, Nat.sub_zero, ← HD9.out, Nat.mul_comm (val A1) d9, Nat.add_comm r]
      case round =>
        obtain ⟨j, low, D1, hj, rfl, rfl, hlow, hr4, hown4, hD1, hDl1, hs1, hb4⟩ := hrel
        by_cases hj9 : j < 9
        · have HS1 := hid hs1
          have HD1 := hid hD1
          have HDL1 := hid hDl1
          have HLOW := hid hlow
          have hlb : low < 4294967296 := by have := p10_mono (show 9 - j ≤ 9 by omega); simp only [p10] at this; omega
          have hd1b : D1.length ≤ 300000000 := by omega
          clear hs1 hD1 hDl1 hlow
          go_wp2_with (at_builtin; go_must (refine wpList_append_own _ rfl _ _ 71 rfl (w.heap.size + 1) 5 i0 (.int .u8 0) 1 1 Tryz.underlying71 hi hz0 hz1 hz2 rfl (by decide) _ _ _ rfl (hown4.alloc _) ⟨wr.heap.size, 0, none⟩ 1 1 [.int .u8 (48 + (low : Int) % 10)] rfl rfl ?_ ?_ ?_ ?_ ?_ ?_))
          · intro q u hq
            match q, hq with
            | 0, hq => simp at hq; subst hq; simp [Addr.add]
          · intro u hu; simp at hu; subst hu; rfl
          · unfold maxLen; omega
          · omega
          · have := hb4.size; simp; omega
          · intro v' w5 hown5 hgrow _
            have hr5 : RowAt w5 w.heap.size (A1.take n ++ (A1.drop n ++ T)) := (hr4.below (show Below wr.heap.size wr _ from (by repeat (first | exact Below.refl _ _ | refine Below.alloc ?_ ?_ _ | refine Below.setCell ?_ ?_ _ | refine Below.drew ?_ | refine below_drewN ?_ _ | (· simp) | omega | (· simp; omega) | exact Below.size (by assumption) | assumption | refine below_call ?_ (by assumption) ?_)))).kept hgrow (by intro e; have := (hown4.lt _ e.symm).1; omega)
            have hb5 : Below w.heap.size w w5 := (hb4.alloc hb4.size _).grown hgrow (by simp; have := hb4.size; omega) (fun q e => by have := (hown4.lt _ e).1; omega)
            have e1 : Bs D1 ++ [.int .u8 (48 + (low : Int) % 10)] = Bs (D1 ++ [48 + low % 10]) := by simp [Bs]
            rw [e1] at hown5
            have HO := hid hown5
            clear hown5 hgrow hown4 hr4
            go_wp2
            go_roundw
            case rel =>
              refine ⟨j + 1, low / 10, D1 ++ [48 + low % 10], by omega, by go_num, by go_num, p10_low hj9 HLOW.out, hr5, by rw [List.length_append]; exact HO.out, ?_, by rw [List.length_append, HDL1.out]; rfl, by rw [dec_step D1 low _ j hj9]; exact HS1.out, hb5⟩
              rw [dig_append]
              exact ⟨HD1.out, by intro c hc; simp at hc; omega⟩
            case measure => simp [intOf]; omega
        · have hj2 : j = 9 := by omega
          subst hj2
          have hlow0 : low = 0 := by simp [p10] at hlow; exact hlow
          subst hlow0
          have HS1 := hid hs1
          have HD1 := hid hD1
          have HDL1 := hid hDl1
          have hvlt : val A1 < val A := by
            have h1 := HV1.out
            have h2 : val A1 * 2 ≤ val A1 * d9 := Nat.mul_le_mul_left _ (by rw [HD9.out]; simp [p10])
            by_cases h0 : val A1 = 0
            · omega
            · omega
          have hv2 : val A1 * 2 ^ (k + 1) ≤ val l := by
            have h1 := HV1.out
            have h2 : val A1 * 2 ≤ val A1 * d9 := Nat.mul_le_mul_left _ (by rw [HD9.out]; simp [p10])
            have h3 : val A1 * 2 * 2 ^ k ≤ val A * 2 ^ k := Nat.mul_le_mul_right _ (by omega)
            have h4 := HVK.out
            rw [Nat.pow_succ, Nat.mul_comm (2 ^ k) 2, ← Nat.mul_assoc]
            omega
          have HVL := hid hvlt
          have HV2 := hid hv2
          clear hs1 hD1 hDl1 hvlt hv2 hlow
          go_wp2
          go_roundg (val (A1.take n))
          case measure => rw [HVN.out, HGK.out]; exact HVL.out
          case rel =>
            refine ⟨k + 1, A1.take n, A1.drop n ++ T, D1, rfl, by rw [take_len hn], by rw [take_len hn]; omega, hr4, ok_take hok1 n, hcn, hown4, HD1.out, by rw [HDL1.out]; omega, by rw [HDL1.out]; omega, by rw [HVN.out]; exact HV2.out, ?_, hb4⟩
            have := HS1.out
            simpa [p10] using this

end Go.Proofs.YtogdchddmjokmaaGreatDoor

namespace Go.Proofs.YtogdchddmjokmaaGreatDoor
open Go.RowKit Lm
set_option linter.unusedSimpArgs false
set_option linter.unusedVariables false
set_option maxRecDepth 100000

/-- C is D with k bytes at each end turned round. -/
def Turned (D C : List Nat) (k : Nat) : Prop := C.length = D.length ∧ ∀ x, x < D.length → C.getD x 0 = if x < k ∨ D.length - k ≤ x then D.getD (D.length - 1 - x) 0 else D.getD x 0

theorem turned_zero (D : List Nat) : Turned D D 0 := ⟨rfl, fun x hx => by rw [if_neg (by omega)]⟩
theorem getD_set {l : List Nat} {i x j : Nat} (hi : i < l.length) : (l.set i x).getD j 0 = if j = i then x else l.getD j 0 := by
  simp only [List.getD_eq_getElem?_getD, List.getElem?_set]
  by_cases h : j = i
  · subst h; simp [hi]
  · rw [if_neg (by omega), if_neg h]
theorem turned_step {D C : List Nat} {k : Nat} (h : Turned D C k) (hk : k < D.length - 1 - k) : Turned D ((C.set k (D.getD (D.length - 1 - k) 0)).set (D.length - 1 - k) (D.getD k 0)) (k + 1) := by
  obtain ⟨h1, h2⟩ := h
  refine ⟨by simp [h1], fun x hx => ?_⟩
  rw [getD_set (by simp [h1]; omega), getD_set (by omega)]
  by_cases e1 : x = D.length - 1 - k
  · rw [if_pos e1, if_pos (by omega)]
    congr 1; omega
  · rw [if_neg e1]
    by_cases e2 : x = k
    · subst e2
      rw [if_pos rfl, if_pos (by omega)]
    · rw [if_neg e2, h2 x hx]
      by_cases e3 : x < k ∨ D.length - k ≤ x
      · rw [if_pos e3, if_pos (by omega)]
      · rw [if_neg e3, if_neg (by omega)]
theorem turned_done {D C : List Nat} {k : Nat} (h : Turned D C k) (hk : D.length ≤ 2 * k + 1) : C = D.reverse := by
  obtain ⟨h1, h2⟩ := h
  apply List.ext_getElem?
  intro x
  by_cases hx : x < D.length
  · have h3 := h2 x hx
    rw [List.getElem?_reverse hx]
    rw [List.getD_eq_getElem?_getD, List.getElem?_eq_getElem (by omega)] at h3
    rw [List.getElem?_eq_getElem (by omega), List.getElem?_eq_getElem (by omega)]
    simp only [Option.getD_some] at h3
    congr 1
    rw [h3]
    by_cases e : x < k ∨ D.length - k ≤ x
    · rw [if_pos e, List.getD_eq_getElem?_getD, List.getElem?_eq_getElem (by omega)]; rfl
    · have e2 : D.length - 1 - x = x := by omega
      rw [if_neg e, List.getD_eq_getElem?_getD, List.getElem?_eq_getElem (by omega)]
      simp [e2]
  · rw [List.getElem?_eq_none (by omega), List.getElem?_eq_none (by simp; omega)]

set_option maxHeartbeats 1600000 in
theorem reverse_any (w : World) (base g cap : Nat) (D : List Nat) (h : w.ownsRow base 5 1 (.slice (some ⟨g, 0, none⟩) D.length cap) D.length (Bs D)) (hl : D.length ≤ 1000000000) :
    Calls Tryz.prog 47 #[.slice (some ⟨g, 0, none⟩) D.length cap] w fun e w' => e = .returned (.tuple #[]) ∧ w'.ownsRow base 5 1 (.slice (some ⟨g, 0, none⟩) D.length cap) D.length (Bs D.reverse) ∧ w.grownBy w' (some g) := by
  go_enter Tryz.func47, Tryz.ntmps47
  go_wp2
  go_loopw [2, 3] (fun iv jv wr => ∃ (k : Nat) (C : List Nat), k ≤ D.length ∧ iv = .int .i64 k ∧ jv = .int .i64 ((D.length : Int) - 1 - k) ∧ Hid (Turned D C k) ∧ wr.ownsRow base 5 1 (.slice (some ⟨g, 0, none⟩) D.length cap) D.length (Bs C) ∧ w.grownBy wr (some g)) (fun iv jv wr => D.length - (intOf iv).toNat)
  case atStart => exact ⟨0, D, Nat.zero_le _, rfl, by go_num, turned_zero D, h, grow_refl _ _⟩
  case round =>
    obtain ⟨k, C, hk, rfl, rfl, HT, hown, hgw⟩ := hrel
    by_cases hlt : k < D.length - 1 - k
    · have hx : wr.cell? ⟨g, k, none⟩ = some (.int .u8 ((D.getD k 0 : Nat) : Int)) := by
        rw [hown.cellAt k (by omega)]
        have := HT.out.2 k (by omega)
        rw [if_neg (by omega)] at this
        rw [← this]
        simp [Bs, List.getD_eq_getElem?_getD, show k < C.length by rw [HT.out.1]; omega]
      have hy : wr.cell? ⟨g, D.length - 1 - k, none⟩ = some (.int .u8 ((D.getD (D.length - 1 - k) 0 : Nat) : Int)) := by
        rw [hown.cellAt (D.length - 1 - k) (by omega)]
        have := HT.out.2 (D.length - 1 - k) (by omega)
        rw [if_neg (by omega)] at this
        rw [← this]
        simp [Bs, List.getD_eq_getElem?_getD, show D.length - 1 - k < C.length by rw [HT.out.1]; omega]
      have hfx := hown.frozenAt k
      have hfy := hown.frozenAt (D.length - 1 - k)
      have hlt1 : (k : Int) < (D.length : Int) - 1 - k := by omega
      have HTS := hid (turned_step HT.out hlt)
      obtain ⟨a, ha⟩ : ∃ a, a = D.getD k 0 := ⟨_, rfl⟩
      obtain ⟨b, hb⟩ : ∃ b, b = D.getD (D.length - 1 - k) 0 := ⟨_, rfl⟩
      rw [← ha] at hx HTS
      rw [← hb] at hy HTS
      clear ha hb
      go_wp2
      go_region
      go_wp2
      go_roundw
      case rel =>
        refine ⟨k + 1, (C.set k b).set (D.length - 1 - k) a, by omega, by go_num, by go_num, HTS, ?_, grow_drew (grow_set (grow_set hgw _ _) _ _)⟩
        have h1 := (((hown.stored k (.int .u8 (b : Int))).1).stored (D.length - 1 - k) (.int .u8 (a : Int))).1.drew
        have e : Bs ((C.set k b).set (D.length - 1 - k) a) = ((Bs C).set k (.int .u8 (b : Int))).set (D.length - 1 - k) (.int .u8 (a : Int)) := by simp [Bs, List.map_set]
        rw [e]
        exact h1
      case measure => simp [intOf]; omega
    · go_wp2
      go_end0
      have := turned_done HT.out (by omega)
      subst this
      exact ⟨rfl, hown, hgw⟩

/-- Bytes as a string. -/
def str (l : List Nat) : ByteArray := ⟨(l.map UInt8.ofNat).toArray⟩

theorem run_str (w : World) (base g cap : Nat) (D : List Nat) (h : w.ownsRow base 5 1 (.slice (some ⟨g, 0, none⟩) D.length cap) D.length (Bs D)) :
    (convert 71 9 (.slice (some ⟨g, 0, none⟩) D.length cap)).run Tryz.prog w = .ok (.string (str D)) w := by
  have h1 := run_convert_bytes_arg (P := Tryz.prog) (w := w) 71 5 Tryz.underlying71 Tryz.underlying5 g 0 D.length cap (D.map (fun (x : Nat) => (x : Int))) (by simp) (fun i hi => by
    rw [Nat.zero_add, h.cellAt i (by omega)]
    simp [Bs, List.getD_eq_getElem?_getD, hi]) 9 Tryz.underlying9
  rw [h1]
  congr 2
  simp [strOfNums, str]

theorem decs_ne {n : Nat} (h : 0 < n) : decs n ≠ [] := by
  unfold decs
  simp only [decsF]
  rw [if_neg (by omega)]
  simp
theorem ownB_some {w : World} {base : Nat} {ao : Option Addr} {cap n : Nat} {xs : List Value} (h : w.ownsRow base 5 1 (.slice ao n cap) n xs) (hn : 0 < n) : ∃ g, ao = some ⟨g, 0, none⟩ ∧ base ≤ g := by
  rcases h.2 with ⟨_, rfl⟩ | ⟨g, cap', cur, h', hbg, _⟩
  · omega
  · simp only [Value.slice.injEq, true_and] at h'
    exact ⟨g, h'.1, hbg⟩
theorem text_pos {l : List Nat} (hv : 0 < val l) : textOf (sgn false (val l)) = (decs (val l)).reverse := by
  unfold textOf sgn
  rw [if_neg (by simp; omega), if_neg (by simp)]
  simp
theorem text_neg {l : List Nat} (hv : 0 < val l) : textOf (sgn true (val l)) = (decs (val l) ++ [45]).reverse := by
  unfold textOf sgn
  rw [if_neg (by simp; omega), if_pos (by simp; omega)]
  simp

set_option maxHeartbeats 1600000 in
theorem text_num (w : World) (v : Value) (n : Nat) (z : Int) (h : Arg w v n z) (hn : n ≤ 1000000) :
    Calls Tryz.prog 22 #[v] w fun e w' => e = .returned (.string (str (textOf z))) ∧ Below w.heap.size w w' := by
  obtain ⟨i0, hi, hz0, hz1, hz2⟩ := info_parts Tryz.info8
  have hA := h
  obtain ⟨neg0, sv0, l0, rfl, -⟩ := h
  have HA := hid hA
  clear hA
  go_enter Tryz.func22, Tryz.ntmps22
  go_wp2_with fail
  refine (counted_num w _ _ n z HA.out (by repeat (first | exact Below.refl _ _ | refine Below.alloc ?_ ?_ _ | refine Below.setCell ?_ ?_ _ | refine Below.drew ?_ | refine below_drewN ?_ _ | (· simp) | omega | (· simp; omega) | exact Below.size (by assumption) | assumption | refine below_call ?_ (by assumption) ?_))).mono ?_
  rintro e w1 ⟨neg, ao, cap, l, rfl, hs, hln, hm, hz, hb⟩
  have HM := hid hm
  have HZ := hid hz
  clear hm hz HA
  obtain ⟨hc1, hf1⟩ := bcell hb
  have hy1 := hb.size
  simp at hy1
  have hcm := hs.2.2.1
  have hlc := hs.2.1
  unfold maxLen at hcm
  by_cases hl : l.length = 0
  · have HT : Hid (textOf z = [48]) := hid (by rw [HZ.out, List.eq_nil_of_length_eq_zero hl]; cases neg <;> simp [sgn, val, textOf])
    go_wp2_with fail
    go_ret
    exact ⟨by rw [HT.out]; rfl, (by repeat (first | exact Below.refl _ _ | refine Below.alloc ?_ ?_ _ | refine Below.setCell ?_ ?_ _ | refine Below.drew ?_ | refine below_drewN ?_ _ | (· simp) | omega | (· simp; omega) | exact Below.size (by assumption) | assumption | refine below_call ?_ (by assumption) ?_))⟩
  · have hvl : 0 < val l := by
      have h1 := canon_pos (may_canon HM.out) (by intro e; subst e; simp at hl)
      have h2 := pw_pos (l.length - 1)
      omega
    have HVL := hid hvl
    clear hvl
    go_wp2_with fail
    refine (digitsOf_any _ ao cap l (by exact hs.below (by repeat (first | exact Below.refl _ _ | refine Below.alloc ?_ ?_ _ | refine Below.setCell ?_ ?_ _ | refine Below.drew ?_ | refine below_drewN ?_ _ | (· simp) | omega | (· simp; omega) | exact Below.size (by assumption) | assumption | refine below_call ?_ (by assumption) ?_))) (by omega) (may_canon HM.out)).mono ?_
    rintro e w2 ⟨D, ao2, cap2, rfl, hown, hD, hDl, hb2⟩
    have hD0 : 0 < D.length := by
      have := decs_ne HVL.out
      rw [← hD] at this
      exact List.length_pos_iff.2 this
    obtain ⟨g, rfl, hg⟩ := ownB_some hown hD0
    have hp0 : w2.cell? ⟨w.heap.size, 0, none⟩ = some (.bool neg) := (hb2.cell (p := ⟨w.heap.size, 0, none⟩) (by show w.heap.size < _; simp; omega)).trans (by simp [go_sem, hc1, show w.heap.size ≤ w1.heap.size by omega])
    have hbw : Below w.heap.size w w2 := (by repeat (first | exact Below.refl _ _ | refine Below.alloc ?_ ?_ _ | refine Below.setCell ?_ ?_ _ | refine Below.drew ?_ | refine below_drewN ?_ _ | (· simp) | omega | (· simp; omega) | exact Below.size (by assumption) | assumption | refine below_call ?_ (by assumption) ?_))
    have HD := hid hD
    obtain ⟨base, hbase⟩ : ∃ base, base = ((w1.setCell ⟨w.heap.size, 0, none⟩ (.bool neg)).setCell ⟨w.heap.size, 1, none⟩ (.slice ao l.length cap)).heap.size + 1 := ⟨_, rfl⟩
    have hbase2 : w.heap.size ≤ base := by rw [hbase]; simp; omega
    rw [← hbase] at hown hg
    clear hD hb2 hc1 hf1 hb hs hbase
    cases neg
    · go_wp2_with fail
      refine (reverse_any _ base g cap2 D hown (by omega)).mono ?_
      rintro e w3 ⟨rfl, hown3, hg3⟩
      have hrun := run_str w3 base g cap2 D.reverse (by rw [List.length_reverse]; exact hown3)
      rw [List.length_reverse] at hrun
      have HT : Hid (textOf z = D.reverse) := hid (by rw [HZ.out, text_pos HVL.out, HD.out])
      have hb3 : Below w.heap.size w w3 := hbw.grown hg3 hbw.size (by intro k e; simp at e; omega)
      clear hown hown3 hg3
      go_wp2
      go_ret
      exact ⟨by rw [HT.out]; rfl, hb3⟩
    · go_wp2_with (first
        | (at_builtin; go_must (refine wpList_append_own _ rfl _ _ 71 rfl base 5 i0 (.int .u8 0) 1 1 Tryz.underlying71 hi hz0 hz1 hz2 rfl (by decide) _ _ _ rfl (hown.alloc _) ⟨w2.heap.size, 0, none⟩ 1 1 [.int .u8 45] rfl rfl ?_ ?_ ?_ ?_ ?_ ?_))
        | fail)
      · intro q u hq
        match q, hq with
        | 0, hq => simp at hq; subst hq; simp [Addr.add]
      · intro u hu; simp at hu; subst hu; rfl
      · unfold maxLen; omega
      · omega
      · have := (hown.lt g rfl); simp; omega
      · intro v' w5 hown5 hgrow _
        have e1 : Bs D ++ [.int .u8 45] = Bs (D ++ [45]) := by simp [Bs]
        rw [e1] at hown5
        obtain ⟨ao5, cap5, rfl, _⟩ := ownB_shape hown5
        obtain ⟨g5, rfl, hg5⟩ := ownB_some hown5 (by omega)
        have hb5 : Below w.heap.size w w5 := (hbw.alloc hbw.size _).grown hgrow (by simp; have := hbw.size; omega) (fun q e => by simp [Value.ownBlock] at e; omega)
        have el : D.length + 1 = (D ++ [45]).length := by simp
        rw [el] at hown5
        have HE := hid el
        clear hown hgrow el
        go_wp2_with fail
        rw [HE.out]
        refine (reverse_any _ base g5 cap5 (D ++ [45]) hown5 (by simp; omega)).mono ?_
        rintro e w3 ⟨rfl, hown3, hg3⟩
        have hrun := run_str w3 base g5 cap5 (D ++ [45]).reverse (by rw [List.length_reverse]; exact hown3)
        rw [List.length_reverse, ← HE.out] at hrun
        have HT : Hid (textOf z = 45 :: D.reverse) := hid (by rw [HZ.out, text_neg HVL.out, HD.out]; simp)
        have hb3 : Below w.heap.size w w3 := hb5.grown hg3 hb5.size (by intro k e; simp at e; omega)
        clear hown5 hown3 hg3
        rw [← HE.out]
        go_wp2
        go_ret
        exact ⟨by rw [HT.out]; rfl, hb3⟩

end Go.Proofs.YtogdchddmjokmaaGreatDoor

namespace Go.Proofs.YtogdchddmjokmaaGreatDoor
open Go.RowKit Lm
set_option linter.unusedSimpArgs false
set_option linter.unusedVariables false
set_option maxRecDepth 100000

/-- What divLimbs tells. -/
def DivPost (W : World) (la lb : List Nat) (e : Ending) (w' : World) : Prop :=
  ∃ qa qn qc ra rn rc q r, e = .returned (.tuple #[.slice qa qn qc, .slice ra rn rc]) ∧ qn = q.length ∧ rn = r.length ∧ SlAt w' qa qc q ∧ From W.heap.size qa ∧ SlAt w' ra rc r ∧ From W.heap.size ra ∧
    val la = val q * val lb + val r ∧ val r < val lb ∧ q.length ≤ la.length ∧ r.length ≤ la.length + lb.length ∧ Below W.heap.size W w'

/-- What is known of divLimbs: of limbs up to so many by limbs up to so many. -/
def DivSaid (N M : Nat) : Prop := ∀ (W : World) (ao : Option Addr) (ca : Nat) (la : List Nat) (bo : Option Addr) (cb : Nat) (lb : List Nat), SlAt W ao ca la → SlAt W bo cb lb → canon la → canon lb → lb.length ≠ 0 → la.length ≤ N → lb.length ≤ M →
  Calls Tryz.prog 52 #[.slice ao la.length ca, .slice bo lb.length cb] W (DivPost W la lb)

set_option maxHeartbeats 800000 in
theorem divLimbs_less (W : World) (ao : Option Addr) (ca : Nat) (la : List Nat) (bo : Option Addr) (cb : Nat) (lb : List Nat) (ha : SlAt W ao ca la) (hb : SlAt W bo cb lb) (hcb : canon lb) (hN : la.length ≤ 1000000) (hlt : la.length < lb.length) :
    Calls Tryz.prog 52 #[.slice ao la.length ca, .slice bo lb.length cb] W (DivPost W la lb) := by
  have hca := ha.2.2.1
  have hcb2 := hb.2.2.1
  have hla := ha.2.1
  have hlb := hb.2.1
  unfold maxLen at hca hcb2
  have HV := hid (val_len_lt ha.1 hcb hlt)
  go_enter Tryz.func52, Tryz.ntmps52
  go_wp2_with fail
  refine (copied_any _ ao ca la ha hN).mono ?_
  rintro e w1 ⟨rfl, hr, hb1⟩
  go_wp2
  go_ret2
  exact ⟨none, 0, 0, some ⟨W.heap.size, 0, none⟩, la.length, la.length, [], la, rfl, rfl, rfl, ⟨ok_nil, by simp, by unfold maxLen; omega, .inl ⟨rfl, fun _ => rfl⟩⟩, (by intro ad e; simp at e), hr.whole ha.1 (by omega), from_row _ _ _ (Nat.le_refl _), by simp [val], HV.out, by simp, by omega, hb1⟩

set_option maxHeartbeats 800000 in
theorem divLimbs_one (W : World) (ao : Option Addr) (ca : Nat) (la : List Nat) (bo : Option Addr) (cb : Nat) (lb : List Nat) (ha : SlAt W ao ca la) (hb : SlAt W bo cb lb) (hcb : canon lb) (hN : la.length ≤ 1000000) (hlt : ¬ la.length < lb.length) (h1 : lb.length = 1) :
    Calls Tryz.prog 52 #[.slice ao la.length ca, .slice bo lb.length cb] W (DivPost W la lb) := by
  have hca := ha.2.2.1
  have hcb2 := hb.2.2.1
  have hla := ha.2.1
  have hlb := hb.2.1
  unfold maxLen at hca hcb2
  obtain ⟨d, rfl⟩ : ∃ d, lb = [d] := by
    match lb, h1 with
    | [d], _ => exact ⟨d, rfl⟩
  have hd0 : 0 < d := by simp [canon] at hcb; omega
  have hd : d < 4294967296 := (ok_cons.1 hb.1).1
  rcases hb.2.2.2 with ⟨h', _⟩ | ⟨b, off, rfl, hltb, hc⟩
  · simp at h'
  have hcell : W.cell? ⟨b, off, none⟩ = some (.int .u32 (d : Int)) := by have := hc 0 (by simp); simpa using this
  simp only [List.length_cons, List.length_nil, Nat.zero_add] at hlt hlb ⊢
  clear hc h1
  go_enter Tryz.func52, Tryz.ntmps52
  go_wp2_with fail
  refine (copied_any _ ao ca la ha hN).mono ?_
  rintro e w1 ⟨rfl, hr, hb1⟩
  have hcell1 : w1.cell? ⟨b, off, none⟩ = some (.int .u32 (d : Int)) := (hb1.cell (p := ⟨b, off, none⟩) hltb).trans hcell
  go_wp2_with fail
  refine (divInto_any _ W.heap.size la.length la [] d (by rw [List.append_nil]; exact hr) ha.1 hN (Nat.le_refl _) hd0 hd _ rfl).mono ?_
  rintro e w2 ⟨A, r, rfl, hr2, hl2, hok2, hv, hrd, hg⟩
  rw [List.append_nil] at hr2
  have HV := hid hv
  have HL := hid hl2
  have hb2 : Below W.heap.size W w2 := hb1.grown hg hb1.size (by intro k e; simp at e; omega)
  clear hv hl2 hg hr hb1
  go_wp2
  go_ret2
  have h3 : RowAt (w2.alloc (.cells #[.int .u32 (r : Int)] 55)) w2.heap.size [r] := by
    unfold RowAt; rw [heap_alloc_new]; simp [U]
  refine ⟨some ⟨W.heap.size, 0, none⟩, la.length, la.length, some ⟨w2.heap.size, 0, none⟩, 1, 1, A, [r], rfl, HL.out.symm, rfl, ?_, from_row _ _ _ (Nat.le_refl _), h3.whole (by rw [ok_cons]; exact ⟨by omega, ok_nil⟩) (by simp), from_row _ _ _ hb2.size, by simp [val]; exact HV.out, by simp [val]; exact hrd, by rw [HL.out]; exact Nat.le_refl _, by simp, (by repeat (first | exact Below.refl _ _ | refine Below.alloc ?_ ?_ _ | refine Below.setCell ?_ ?_ _ | refine Below.drew ?_ | refine below_drewN ?_ _ | (· simp) | omega | (· simp; omega) | exact Below.size (by assumption) | assumption | refine below_call ?_ (by assumption) ?_))⟩
  rw [← HL.out]
  exact (hr2.whole hok2 (by rw [HL.out]; omega)).alloc _

theorem divSaid_one : DivSaid 1000000 1 := by
  intro W ao ca la bo cb lb ha hb hca hcb hne hN hM
  by_cases hlt : la.length < lb.length
  · exact divLimbs_less W ao ca la bo cb lb ha hb hcb hN hlt
  · exact divLimbs_one W ao ca la bo cb lb ha hb hcb hN hlt (by omega)

/-- What Div has laid. -/
def Laid4 (w : World) (n1 : Bool) (s1 : Value) (n2 : Bool) (s2 : Value) : World :=
  (((w.alloc (.cells #[.bool n1, s1] 24)).alloc (.cells #[.bool n2, s2] 24)).alloc (.cells #[.bool false, .slice none 0 0] 24)).alloc (.cells #[.bool false, .slice none 0 0] 24)
theorem laid4 (w : World) (n1 : Bool) (s1 : Value) (n2 : Bool) (s2 : Value) : (Laid4 w n1 s1 n2 s2).heap.size = w.heap.size + 4 ∧ Box (Laid4 w n1 s1 n2 s2) w.heap.size (.bool n1) s1 ∧ Box (Laid4 w n1 s1 n2 s2) (w.heap.size + 1) (.bool n2) s2 ∧
    (∀ b, w.heap.size + 1 < b → b < w.heap.size + 4 → Box (Laid4 w n1 s1 n2 s2) b (.bool false) (.slice none 0 0)) ∧ Below w.heap.size w (Laid4 w n1 s1 n2 s2) := by
  unfold Laid4
  refine ⟨by simp, ?_, ?_, fun b h1 h2 => ?_, (by repeat (first | exact Below.refl _ _ | refine Below.alloc ?_ ?_ _ | refine Below.setCell ?_ ?_ _ | refine Below.drew ?_ | refine below_drewN ?_ _ | (· simp) | omega | (· simp; omega) | exact Below.size (by assumption) | assumption | refine below_call ?_ (by assumption) ?_))⟩
  · exact (((Box.new w _ _ _ rfl).alloc _).alloc _).alloc _
  · exact ((Box.new _ _ _ _ (by simp)).alloc _).alloc _
  · rcases (show b = w.heap.size + 2 ∨ b = w.heap.size + 3 by omega) with rfl | rfl
    · exact (Box.new _ _ _ _ (by simp)).alloc _
    · exact Box.new _ _ _ _ (by simp)

set_option maxHeartbeats 1600000 in
theorem div_zero (w : World) (u v : Value) (n m : Nat) (x y : Int) (hx : Arg w u n x) (hy : Arg w v m y) (hy0 : y = 0) :
    Calls Tryz.prog 28 #[u, v] w fun e w' => e = .returned (.tuple #[.agg #[.bool false, .slice none 0 0], .agg #[.bool false, .slice none 0 0], .int .i64 1]) ∧ Below w.heap.size w w' := by
  have HX := hid hx
  have HY := hid hy
  have HY0 := hid hy0
  clear hy0
  obtain ⟨n1, s1, l1, rfl, -⟩ := hx
  obtain ⟨n2, s2, l2, rfl, -⟩ := hy
  go_enter Tryz.func28, Tryz.ntmps28
  go_wp2
  go_cut [] (fun wc => ∃ neg1 ao1 cap1 l1 neg2 ao2 cap2 l2, Boxed2 w (w.heap.size + 4) n m x y wc neg1 ao1 cap1 l1 neg2 ao2 cap2 l2)
  case first =>
    go_region_with (first | (go_at_call_of 45 (Value.agg #[Value.bool n1, s1]); refine (counted_h w _ _ n x HX.out ?_).mono ?_; (exact (by repeat (first | exact Below.refl _ _ | refine Below.alloc ?_ ?_ _ | refine Below.setCell ?_ ?_ _ | refine Below.drew ?_ | refine below_drewN ?_ _ | (· simp) | omega | (· simp; omega) | exact Below.size (by assumption) | assumption | refine below_call ?_ (by assumption) ?_))); rintro e w1 ⟨neg1, ao1, cap1, k1, l1, rfl, HK1, HC1, hb1⟩; obtain ⟨hc1, hf1⟩ := bcell hb1; simp only [asize, dsize] at hc1 hf1) | (go_at_call_of 45 (Value.agg #[Value.bool n2, s2]); refine (counted_h w _ _ m y HY.out ?_).mono ?_; (exact (by repeat (first | exact Below.refl _ _ | refine Below.alloc ?_ ?_ _ | refine Below.setCell ?_ ?_ _ | refine Below.drew ?_ | refine below_drewN ?_ _ | (· simp) | omega | (· simp; omega) | exact Below.size (by assumption) | assumption | refine below_call ?_ (by assumption) ?_))); rintro e w2 ⟨neg2, ao2, cap2, k2, l2, rfl, HK2, HC2, hb2⟩; have hW2 := below_call hb1 hb2 hb1.size; obtain ⟨hc2, hf2⟩ := bcell hW2; simp only [asize, dsize] at hc2 hf2))
    all_goals (go_wp2_with fail; go_meet; exact ⟨neg1, ao1, cap1, _, neg2, ao2, cap2, _, boxed2_mk HK1 HC1 HK2 HC2 (laid4 w n1 s1 n2 s2).1 (laid4 w n1 s1 n2 s2).2.1 (laid4 w n1 s1 n2 s2).2.2.1 (laid4 w n1 s1 n2 s2).2.2.2.1 (laid4 w n1 s1 n2 s2).2.2.2.2 (below_undrew hW2)⟩)
  case rest =>
    obtain ⟨neg1, ao1, cap1, l1, neg2, ao2, cap2, l2, HB⟩ := hcut
    have hk2 : l2.length = 0 := by
      have h1 := HB.c2.2.2.2
      rw [HY0.out] at h1
      have h2 : val l2 = 0 := by have := sgn_abs neg2 (val l2); omega
      rw [val_eq_zero (may_canon HB.c2.2.2.1) h2]; rfl
    have hb1 := HB.b2.c1
    rw [hk2] at hb1
    have r0 := HB.rs (w.heap.size + 1 + 1) (by omega) (by omega)
    have r1 := HB.rs (w.heap.size + 1 + 1 + 1) (by omega) (by omega)
    have r00 := r0.c0
    have r01 := r0.c1
    have r0f := r0.f
    have r10 := r1.c0
    have r11 := r1.c1
    have r1f := r1.f
    have hbl := HB.bl
    clear HB hk2
    go_wp2
    refine bodyPost_ret (v := .tuple #[.agg #[.bool false, .slice none 0 0], .agg #[.bool false, .slice none 0 0], .int .i64 1]) ?_ rfl ⟨rfl, ?_⟩
    · simp [results, Tryz.results28, go_sem, r00, r01, r10, r11]
    · exact (by repeat (first | exact Below.refl _ _ | refine Below.alloc ?_ ?_ _ | refine Below.setCell ?_ ?_ _ | refine Below.drew ?_ | refine below_drewN ?_ _ | (· simp) | omega | (· simp; omega) | exact Below.size (by assumption) | assumption | refine below_call ?_ (by assumption) ?_))

end Go.Proofs.YtogdchddmjokmaaGreatDoor

namespace Go.Proofs.YtogdchddmjokmaaGreatDoor
open Go.RowKit Lm
set_option linter.unusedSimpArgs false
set_option linter.unusedVariables false
set_option maxRecDepth 100000

/-- What Div tells. -/
def DivTold (w : World) (n m : Nat) (x y : Int) (e : Ending) (w' : World) : Prop :=
  ∃ nq aq kq cq nr ar kr cr, e = .returned (.tuple #[.agg #[.bool nq, .slice aq kq cq], .agg #[.bool nr, .slice ar kr cr], .int .i64 0]) ∧
    Is w' w.heap.size (.agg #[.bool nq, .slice aq kq cq]) n (x.tdiv y) ∧ Is w' w.heap.size (.agg #[.bool nr, .slice ar kr cr]) (n + m) (x.tmod y) ∧ Below w.heap.size w w'

/-- The boxes of Div, as they stand while the answers are made. -/
def DivS (w : World) (neg1 neg2 : Bool) (w' : World) : Prop :=
  w'.cell? ⟨w.heap.size, 0, none⟩ = some (.bool neg1) ∧ w'.cell? ⟨w.heap.size + 1, 0, none⟩ = some (.bool neg2)

theorem tdiv_sgn (na nb : Bool) (q r a b : Nat) (h : a = q * b + r) (hr : r < b) : (sgn na a).tdiv (sgn nb b) = sgn (na != nb) q ∧ (sgn na a).tmod (sgn nb b) = sgn na r := by
  have h1 : a / b = q := by
    rw [h, Nat.mul_comm, Nat.mul_add_div (by omega), Nat.div_eq_of_lt hr, Nat.add_zero]
  have h2 : a % b = r := by
    rw [h, Nat.mul_comm, Nat.mul_add_mod, Nat.mod_eq_of_lt hr]
  have e1 : ((a : Int)).tdiv (b : Int) = (q : Int) := by rw [← Int.ofNat_tdiv, h1]
  have e2 : ((a : Int)).tmod (b : Int) = (r : Int) := by rw [← Int.ofNat_tmod, h2]
  cases na <;> cases nb <;> simp [sgn, Int.neg_tdiv, Int.tdiv_neg, Int.neg_tmod, Int.tmod_neg, e1, e2]

theorem cell_far {w : World} {a b : Addr} {v u : Value} (h : a.block ≠ b.block) (hc : w.cell? b = some u) : (w.setCell a v).cell? b = some u :=
  (World.cell?_of_block (w := w) (Below.heap_setCell w a v b.block (Ne.symm h))).trans hc
theorem cell_drew {w : World} {b : Addr} {u : Value} (hc : w.cell? b = some u) : w.drew.cell? b = some u := hc
theorem from_mono {lo lo' : Nat} {ao : Option Addr} (h : From lo ao) (hl : lo' ≤ lo) : From lo' ao := fun ad e => Nat.le_trans hl (h ad e)
theorem made_k (w : World) (lo : Nat) (neg : Bool) (ao : Option Addr) (cap k : Nat) (l : List Nat) (hk : k = l.length) (h : SlAt w ao cap l) (hf : From lo ao) :
    Calls Tryz.prog 53 #[.bool neg, .slice ao k cap] w fun e w' => ∃ neg' ao' n' cap', e = .returned (.agg #[.bool neg', .slice ao' n' cap']) ∧ Hid (Is w' lo (.agg #[.bool neg', .slice ao' n' cap']) l.length (sgn neg (val l))) ∧ Below w.heap.size w w' := by
  subst hk
  exact made_any w lo neg ao cap l h hf

set_option maxHeartbeats 3200000 in
theorem div_num (N M : Nat) (hsaid : DivSaid N M) (w : World) (u v : Value) (n m : Nat) (x y : Int) (hx : Arg w u n x) (hy : Arg w v m y) (hy0 : y ≠ 0) (hn : n ≤ N) (hm : y.natAbs < pw M) :
    Calls Tryz.prog 28 #[u, v] w (DivTold w n m x y) := by
  have HX := hid hx
  have HY := hid hy
  have HY0 := hid hy0
  have HM := hid hm
  have HSD := hid hsaid
  clear hy0 hm hsaid
  obtain ⟨n1, s1, l1, rfl, -⟩ := hx
  obtain ⟨n2, s2, l2, rfl, -⟩ := hy
  go_enter Tryz.func28, Tryz.ntmps28
  go_wp2
  go_cut [] (fun wc => ∃ neg1 ao1 cap1 l1 neg2 ao2 cap2 l2, Boxed2 w (w.heap.size + 4) n m x y wc neg1 ao1 cap1 l1 neg2 ao2 cap2 l2)
  case first =>
    go_region_with (first | (go_at_call_of 45 (Value.agg #[Value.bool n1, s1]); refine (counted_h w _ _ n x HX.out ?_).mono ?_; (exact (by repeat (first | exact Below.refl _ _ | refine Below.alloc ?_ ?_ _ | refine Below.setCell ?_ ?_ _ | refine Below.drew ?_ | refine below_drewN ?_ _ | (· simp) | omega | (· simp; omega) | exact Below.size (by assumption) | assumption | refine below_call ?_ (by assumption) ?_))); rintro e w1 ⟨neg1, ao1, cap1, k1, l1, rfl, HK1, HC1, hb1⟩; obtain ⟨hc1, hf1⟩ := bcell hb1; simp only [asize, dsize] at hc1 hf1) | (go_at_call_of 45 (Value.agg #[Value.bool n2, s2]); refine (counted_h w _ _ m y HY.out ?_).mono ?_; (exact (by repeat (first | exact Below.refl _ _ | refine Below.alloc ?_ ?_ _ | refine Below.setCell ?_ ?_ _ | refine Below.drew ?_ | refine below_drewN ?_ _ | (· simp) | omega | (· simp; omega) | exact Below.size (by assumption) | assumption | refine below_call ?_ (by assumption) ?_))); rintro e w2 ⟨neg2, ao2, cap2, k2, l2, rfl, HK2, HC2, hb2⟩; have hW2 := below_call hb1 hb2 hb1.size; obtain ⟨hc2, hf2⟩ := bcell hW2; simp only [asize, dsize] at hc2 hf2))
    all_goals (go_wp2_with fail; go_meet; exact ⟨neg1, ao1, cap1, _, neg2, ao2, cap2, _, boxed2_mk HK1 HC1 HK2 HC2 (laid4 w n1 s1 n2 s2).1 (laid4 w n1 s1 n2 s2).2.1 (laid4 w n1 s1 n2 s2).2.2.1 (laid4 w n1 s1 n2 s2).2.2.2.1 (laid4 w n1 s1 n2 s2).2.2.2.2 (below_undrew hW2)⟩)
  case rest =>
    obtain ⟨neg1, ao1, cap1, l1, neg2, ao2, cap2, l2, HB⟩ := hcut
    have HB' := hid HB
    have hk2 : ((l2.length : Int) == 0) = false := by
      simp
      intro e
      have h1 := HB.c2.2.2.2
      rw [e] at h1
      apply HY0.out
      rw [h1]
      cases neg2 <;> simp [sgn, val]
    have hk2c : l2.length ≤ 9223372036854775807 := by have := HB.c2.1.2.2.1; have h3 := HB.c2.1.2.1; unfold maxLen at this; omega
    have hM2 : l2.length ≤ M := by
      rcases Nat.lt_or_ge M l2.length with h | h
      · have h1 := HM.out
        rw [HB.c2.2.2.2, sgn_abs] at h1
        have h2 := canon_pos (may_canon HB.c2.2.2.1) (by intro e; subst e; simp at h)
        have h3 := pw_mono (show M ≤ l2.length - 1 by omega)
        omega
      · exact h
    have a1 := HB.b1.c1
    have b1 := HB.b2.c1
    have a0 := HB.b1.c0
    have b0 := HB.b2.c0
    clear HB
    go_wp2_with fail
    refine (HSD.out _ ao1 cap1 l1 ao2 cap2 l2 (HB'.out.c1.1.below HB'.out.bl) (HB'.out.c2.1.below HB'.out.bl) (may_canon HB'.out.c1.2.2.1) (may_canon HB'.out.c2.2.2.1) (by intro e; simp [e] at hk2) (Nat.le_trans HB'.out.c1.2.1 hn) hM2).mono ?_
    rintro e w3 ⟨qa, qn, qc, ra, rn, rc, q, r, rfl, hqn, hrn, hq, hfq, hr, hfr, hv, hlt, hql, hrl, hb3⟩
    have HQ := hid hqn
    have HR := hid hrn
    have HV := hid hv
    have hsz := HB'.out.sz
    have a0' : w3.cell? ⟨w.heap.size, 0, none⟩ = some (.bool neg1) := (HB'.out.b1.keep hb3).c0
    have b0' : w3.cell? ⟨w.heap.size + 1, 0, none⟩ = some (.bool neg2) := (HB'.out.b2.keep hb3).c0
    have r2 := (HB'.out.rs (w.heap.size + 1 + 1) (by omega) (by omega)).keep hb3
    have r3 := (HB'.out.rs (w.heap.size + 1 + 1 + 1) (by omega) (by omega)).keep hb3
    have HR2 := hid r2
    have HR3 := hid r3
    have hsz3 := hb3.size
    clear hqn hrn hv a0 a1 b0 b1 r2 r3
    go_wp2_with fail
    have hlo : w.heap.size + 4 ≤ w3.heap.size := by omega
    have hbw3 : Below w.heap.size w w3 := HB'.out.bl.trans (hb3.mono HB'.out.bl.size)
    have HFQ := hid (from_mono hfq hsz)
    have HFR := hid (from_mono hfr hsz)
    have Hq := hid hq
    have Hr := hid hr
    clear hfq hfr hq hr hb3 hsz hsz3
    go_region_held3 (fun w' => (w'.cell? ⟨w.heap.size, 0, none⟩ = some (.bool neg1) ∧ w'.cell? ⟨w.heap.size + 1, 0, none⟩ = some (.bool neg2))) (refine ⟨?_, ?_⟩ <;> repeat (first | with_reducible exact a5 | with_reducible exact b5 | with_reducible exact a4 | with_reducible exact b4 | with_reducible refine cell_far ?_ ?_ | with_reducible refine cell_drew ?_ | with_reducible exact a0' | with_reducible exact b0' | (· simp) | (· simp; omega))) (first
      | (go_at_call_of 53 (Value.slice qa qn qc); go_must (refine (made_k _ (w.heap.size + 4) _ qa qc qn q HQ.out (by exact Hq.out.drew) HFQ.out).mono ?_); rintro e w4 ⟨nq, aq, kq, cq, rfl, HI4, hb4⟩; have a4 : w4.cell? ⟨w.heap.size, 0, none⟩ = some (.bool neg1) := (hb4.cell (p := ⟨w.heap.size, 0, none⟩) (by show w.heap.size < w3.heap.size; omega)).trans a0'; have b4 : w4.cell? ⟨w.heap.size + 1, 0, none⟩ = some (.bool neg2) := (hb4.cell (p := ⟨w.heap.size + 1, 0, none⟩) (by show w.heap.size + 1 < w3.heap.size; omega)).trans b0')
      | (go_at_call_of 53 (Value.slice ra rn rc); go_must (refine (made_k _ (w.heap.size + 4) _ ra rc rn r HR.out (by exact Hr.out.drew.below hb4) HFR.out).mono ?_); rintro e w5 ⟨nr, ar, kr, cr, rfl, HI5, hb5⟩; have HQI := hid (HI4.out.below hb5); have hs4 := hb4.size; simp only [dsize] at hs4; have a5 : w5.cell? ⟨w.heap.size, 0, none⟩ = some (.bool neg1) := (hb5.cell (p := ⟨w.heap.size, 0, none⟩) (by show w.heap.size < w4.heap.size; omega)).trans a4; have b5 : w5.cell? ⟨w.heap.size + 1, 0, none⟩ = some (.bool neg2) := (hb5.cell (p := ⟨w.heap.size + 1, 0, none⟩) (by show w.heap.size + 1 < w4.heap.size; omega)).trans b4; have r2 := (HR2.out.drew.keep hb4).keep hb5; have r3 := (HR3.out.drew.keep hb4).keep hb5; have r20 := r2.c0; have r21 := r2.c1; have r2f := r2.f; have r30 := r3.c0; have r31 := r3.c1; have r3f := r3.f; clear r2 r3))
    have HD := hid (tdiv_sgn neg1 neg2 (val q) (val r) (val l1) (val l2) HV.out hlt)
    have HBL : Hid (Below w.heap.size w w5) := hid (below_call (below_call (show Below w.heap.size w w3.drew from hbw3.drew) hb4 (by rw [dsize]; omega)) hb5 (by omega))
    have hs5 := hb5.size
    clear hb4 hb5 a4 b4 a5 b5 a0' b0' hlt
    go_wp2
    refine bodyPost_ret (v := .tuple #[.agg #[.bool nq, .slice aq kq cq], .agg #[.bool nr, .slice ar kr cr], .int .i64 0]) ?_ rfl ?_
    · simp [results, Tryz.results28, go_sem, r20, r21, r30, r31]
    · have hx1 := HB'.out.c1.2.2.2
      have hy1 := HB'.out.c2.2.2.2
      have hl1 := HB'.out.c1.2.1
      have hl2 := HB'.out.c2.2.1
      have ex : x.tdiv y = sgn (!neg1 == neg2) (val q) := by rw [hx1, hy1, HD.out.1]; cases neg1 <;> cases neg2 <;> rfl
      have ey : x.tmod y = sgn neg1 (val r) := by rw [hx1, hy1, HD.out.2]
      refine ⟨nq, aq, kq, cq, nr, ar, kr, cr, rfl, ?_, ?_, ?_⟩
      · rw [ex]
        exact ((((HQI.out.setCell (by simp) _).setCell (by simp) _).setCell (by simp) _).setCell (by simp) _).mono (by omega) (by omega)
      · rw [ey]
        exact ((((HI5.out.setCell (by simp) _).setCell (by simp) _).setCell (by simp) _).setCell (by simp) _).mono (by omega) (by omega)
      · exact (((HBL.out.setCell (by simp) _).setCell (by simp) _).setCell (by simp) _).setCell (by simp) _

end Go.Proofs.YtogdchddmjokmaaGreatDoor

namespace Go.Proofs.YtogdchddmjokmaaGreatDoor
open Go.RowKit Lm
set_option linter.unusedSimpArgs false
set_option linter.unusedVariables false
set_option maxRecDepth 100000

theorem text_m3 : str (textOf (-3)) = ⟨#[45, 51]⟩ := by
  have h : decs 3 = [51] := (decs_eq (l := [51]) (by intro c hc; simp at hc; omega) (by simp) (by simp [decv])).symm
  have e : textOf (-3) = [45, 51] := by
    unfold textOf
    rw [if_neg (by omega), if_pos (by omega), show (-3 : Int).natAbs = 3 from rfl, h]
    rfl
  rw [e]; rfl
theorem text_m1 : str (textOf (-1)) = ⟨#[45, 49]⟩ := by
  have h : decs 1 = [49] := (decs_eq (l := [49]) (by intro c hc; simp at hc; omega) (by simp) (by simp [decv])).symm
  have e : textOf (-1) = [45, 49] := by
    unfold textOf
    rw [if_neg (by omega), if_pos (by omega), show (-1 : Int).natAbs = 1 from rfl, h]
    rfl
  rw [e]; rfl
theorem text_64 : str (textOf 18446744073709551616) = ⟨#[49, 56, 52, 52, 54, 55, 52, 52, 48, 55, 51, 55, 48, 57, 53, 53, 49, 54, 49, 54]⟩ := by
  have h : decs 18446744073709551616 = [54, 49, 54, 49, 53, 53, 57, 48, 55, 51, 55, 48, 52, 52, 55, 54, 52, 52, 56, 49] :=
    (decs_eq (by intro c hc; simp at hc; omega) (by simp) (by simp [decv])).symm
  have e : textOf 18446744073709551616 = [49, 56, 52, 52, 54, 55, 52, 52, 48, 55, 51, 55, 48, 57, 53, 53, 49, 54, 49, 54] := by
    unfold textOf
    rw [if_neg (by omega), if_neg (by omega), show (18446744073709551616 : Int).natAbs = 18446744073709551616 from rfl, h]
    rfl
  rw [e]; rfl

theorem arg_001 (W : World) : Arg (W.alloc (.cells #[.int .u32 0, .int .u32 0, .int .u32 1] 55)) (.agg #[.bool false, .slice (some ⟨W.heap.size, 0, none⟩) 3 3]) 3 18446744073709551616 := by
  have h : RowAt (W.alloc (.cells #[.int .u32 0, .int .u32 0, .int .u32 1] 55)) W.heap.size [0, 0, 1] := by
    unfold RowAt
    rw [heap_alloc_new]
    simp [U]
  refine ⟨false, _, [0, 0, 1], rfl, ⟨_, 3, rfl, h.whole (by intro x hx; simp at hx; omega) (by simp)⟩, by simp, ?_⟩
  simp [mean, mayB, sgn, val]

end Go.Proofs.YtogdchddmjokmaaGreatDoor
