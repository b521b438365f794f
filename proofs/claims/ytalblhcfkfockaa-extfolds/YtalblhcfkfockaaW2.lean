/-
  Walks: numbers of words; what counts as a number.
-/
import Derived.Test.YtalblhcfkfockaaW1
namespace Go.Proofs.Ytalblhcfkfockaa
open Go.RowKit Lm
set_option linter.unusedSimpArgs false
set_option linter.unusedVariables false
set_option maxRecDepth 100000

/-- What counts as a number lies where it lay. -/
theorem counted_num (w0 w : World) (v : Value) (n : Nat) (z : Int) (h : Arg w0 v n z) (hw : Below w0.heap.size w0 w) :
    Calls Try.prog 63 #[v] w fun e w' => ∃ neg ao cap l, e = .returned (.agg #[.bool neg, .slice ao l.length cap]) ∧ SlAt w0 ao cap l ∧ l.length ≤ n ∧ mayB neg l = true ∧ z = sgn neg (val l) ∧ Below w.heap.size w w' := by
  obtain ⟨neg, sv, l, rfl, ⟨ao, cap, rfl, hs⟩, hn, hz⟩ := h
  refine (counted_any w neg ao cap l (hs.below hw)).mono ?_
  rintro e w' ⟨rfl, hb⟩
  cases hm : mayB neg l
  · refine ⟨false, none, 0, [], by simp, ⟨ok_nil, by simp, by unfold maxLen; omega, .inl ⟨rfl, fun _ => rfl⟩⟩, by simp, by simp [mayB], ?_, hb⟩
    rw [hz]; simp [mean, hm, sgn, val]
  · exact ⟨neg, ao, cap, l, by simp, hs, hn, hm, by rw [hz]; simp [mean, hm], hb⟩

/-- The same, what is known of it behind a name. -/
def Cnt (w0 : World) (n : Nat) (z : Int) (neg : Bool) (ao : Option Addr) (cap : Nat) (l : List Nat) : Prop := SlAt w0 ao cap l ∧ l.length ≤ n ∧ mayB neg l = true ∧ z = sgn neg (val l)
theorem counted_h (w0 w : World) (v : Value) (n : Nat) (z : Int) (h : Arg w0 v n z) (hw : Below w0.heap.size w0 w) :
    Calls Try.prog 63 #[v] w fun e w' => ∃ neg ao cap k l, e = .returned (.agg #[.bool neg, .slice ao k cap]) ∧ Hid (k = l.length) ∧ Cnt w0 n z neg ao cap l ∧ Below w.heap.size w w' := by
  refine (counted_num w0 w v n z h hw).mono ?_
  rintro e w' ⟨neg, ao, cap, l, rfl, h1, h2, h3, h4, h5⟩
  exact ⟨neg, ao, cap, l.length, l, rfl, rfl, ⟨h1, h2, h3, h4⟩, h5⟩

/-- Two numbers, counted, in the boxes of the call; T: the blocks up to which the call has laid its own. -/
structure Boxed2 (w : World) (T n m : Nat) (x y : Int) (wc : World) (neg1 : Bool) (ao1 : Option Addr) (cap1 : Nat) (l1 : List Nat) (neg2 : Bool) (ao2 : Option Addr) (cap2 : Nat) (l2 : List Nat) : Prop where
  c1 : Cnt w n x neg1 ao1 cap1 l1
  c2 : Cnt w m y neg2 ao2 cap2 l2
  b1 : Box wc w.heap.size (.bool neg1) (.slice ao1 l1.length cap1)
  b2 : Box wc (w.heap.size + 1) (.bool neg2) (.slice ao2 l2.length cap2)
  rs : ∀ b, w.heap.size + 1 < b → b < T → Box wc b (.bool false) (.slice none 0 0)
  sz : T ≤ wc.heap.size
  bl : Below w.heap.size w wc

theorem boxed2_mk {w W w2 : World} {T n m k1 k2 : Nat} {x y : Int} {neg1 : Bool} {ao1 : Option Addr} {cap1 : Nat} {l1 : List Nat} {neg2 : Bool} {ao2 : Option Addr} {cap2 : Nat} {l2 : List Nat} {p1 p2 q1 q2 : Value}
    (h1 : k1 = l1.length) (c1 : Cnt w n x neg1 ao1 cap1 l1) (h2 : k2 = l2.length) (c2 : Cnt w m y neg2 ao2 cap2 l2) (hT : W.heap.size = T)
    (b1 : Box W w.heap.size p1 p2) (b2 : Box W (w.heap.size + 1) q1 q2) (rs : ∀ b, w.heap.size + 1 < b → b < T → Box W b (.bool false) (.slice none 0 0)) (hw : Below w.heap.size w W) (hW : Below W.heap.size W w2) :
    Boxed2 w T n m x y ((((w2.setCell ⟨w.heap.size, 0, none⟩ (.bool neg1)).setCell ⟨w.heap.size, 1, none⟩ (.slice ao1 k1 cap1)).setCell ⟨w.heap.size + 1, 0, none⟩ (.bool neg2)).setCell ⟨w.heap.size + 1, 1, none⟩ (.slice ao2 k2 cap2)) neg1 ao1 cap1 l1 neg2 ao2 cap2 l2 := by
  subst h1 h2 hT
  refine ⟨c1, c2, ?_, ?_, fun b hb hb2 => ?_, by simpa using hW.size, ?_⟩
  · exact ((((b1.keep hW).set0 _).set1 _).other (by simp) _).other (by simp) _
  · exact ((((b2.keep hW).other (by simp) _).other (by simp) _).set0 _).set1 _
  · exact (((((rs b hb hb2).keep hW).other (by simp; omega) _).other (by simp; omega) _).other (by simp; omega) _).other (by simp; omega) _
  · exact ((((hw.trans (hW.mono hw.size)).setCell (by simp) _).setCell (by simp) _).setCell (by simp) _).setCell (by simp) _

set_option maxHeartbeats 400000 in
theorem limbsOf_any (w : World) (n : Nat) (hn : n < 18446744073709551616) :
    Calls Try.prog 91 #[.int .u64 (n : Int)] w fun e w' => e = .returned (.slice (some ⟨w.heap.size, 0, none⟩) 2 2) ∧ RowAt w' w.heap.size [n % 4294967296, n / 4294967296] ∧ Below w.heap.size w w' := by
  go_enter Try.func91, Try.ntmps91
  go_wp2
  go_ret
  refine ⟨rfl, ?_, (by repeat (first | exact Below.refl _ _ | refine Below.alloc ?_ ?_ _ | refine Below.setCell ?_ ?_ _ | refine Below.drew ?_ | refine below_drewN ?_ _ | (· simp) | omega | (· simp; omega) | exact Below.size (by assumption) | assumption | refine below_call ?_ (by assumption) ?_))⟩
  unfold RowAt
  rw [heap_alloc_new]
  simp [U]

theorem neg_wrap (n : Nat) (h : n ≤ 9223372036854775808) : wrap64 (IntKind.u64.wrap (-(n : Int))) = -(n : Int) := by
  unfold wrap64
  rw [IntKind.wrap_u64]
  omega
theorem ret_two {k : IntKind} {a b : Int} {p : Bool} (h : a = b) : Ending.returned (.tuple #[.int k a, .bool p]) = .returned (.tuple #[.int k b, .bool p]) := by rw [h]

/-- Is it one of int64? -/
def fits (z : Int) : Bool := decide (-9223372036854775808 ≤ z ∧ z ≤ 9223372036854775807)
/-- What To tells of z. -/
def toV (z : Int) : Value := if fits z then .tuple #[.int .i64 z, .bool true] else .tuple #[.int .i64 0, .bool false]
theorem toV_yes {z : Int} (h1 : -9223372036854775808 ≤ z) (h2 : z ≤ 9223372036854775807) : toV z = .tuple #[.int .i64 z, .bool true] := by
  unfold toV fits; rw [if_pos (by simp; omega)]
theorem toV_no {z : Int} (h : z < -9223372036854775808 ∨ 9223372036854775807 < z) : toV z = .tuple #[.int .i64 0, .bool false] := by
  unfold toV fits; rw [if_neg (by simp; omega)]

theorem or_zero (x : Nat) (hx : x < 4294967296) : bits BinOp.or IntKind.u64 ((0 : Nat) : Int) (IntKind.u64.wrap (IntKind.u64.wrap (x : Int) * 2 ^ (32 * 0))) = ((x : Nat) : Int) := by
  have e : IntKind.u64.wrap (IntKind.u64.wrap (x : Int) * 2 ^ (32 * 0)) = (x : Int) := by
    rw [IntKind.wrap_u64, IntKind.wrap_u64]; omega
  rw [e, u64_or_nat 0 x (by omega) (by omega)]
  simp
theorem or_high (x y : Nat) (hx : x < 4294967296) (hy : y < 4294967296) : bits BinOp.or IntKind.u64 (x : Int) (IntKind.u64.wrap (IntKind.u64.wrap (y : Int) * 2 ^ (32 * 1))) = ((x + 4294967296 * y : Nat) : Int) := by
  have e : IntKind.u64.wrap (IntKind.u64.wrap (y : Int) * 2 ^ (32 * 1)) = ((4294967296 * y : Nat) : Int) := by
    rw [IntKind.wrap_u64, IntKind.wrap_u64]; omega
  rw [e, u64_or_nat x _ (by omega) (by omega), Nat.or_comm, nat_join 32 _ _ (by omega) (by omega), Nat.add_comm]

theorem word_step (l : List Nat) (k : Nat) (hok : ok l) (hl : l.length ≤ 2) (hk : k < l.length) :
    bits BinOp.or IntKind.u64 ((val (l.take k) : Nat) : Int) (IntKind.u64.wrap (IntKind.u64.wrap ((l[k] : Nat) : Int) * 2 ^ (32 * k))) = ((val (l.take (k + 1)) : Nat) : Int) := by
  have h1 := val_take_succ l k hk
  have h2 := ok_getD hok k
  have h3 : l.getD k 0 = l[k] := by simp [List.getD_eq_getElem?_getD, hk]
  rw [h3] at h1 h2
  rw [h1]
  rcases (show k = 0 ∨ k = 1 by omega) with rfl | rfl
  · rw [List.take_zero]
    show bits BinOp.or IntKind.u64 ((0 : Nat) : Int) _ = _
    rw [or_zero _ h2]
    simp [val, pw]
  · have h4 := val_lt (ok_take hok 1)
    have h5 : (l.take 1).length = 1 := by simp; omega
    rw [h5] at h4
    simp only [pw] at h4
    rw [or_high _ _ (by omega) h2]
    simp [pw]

set_option maxHeartbeats 400000 in
theorem wordOf_any (w : World) (ao : Option Addr) (cap : Nat) (l : List Nat) (h : SlAt w ao cap l) (hl : l.length ≤ 2) :
    Calls Try.prog 105 #[.slice ao l.length cap] w fun e w' => e = .returned (.int .u64 (val l : Nat)) ∧ w' = w := by
  obtain ⟨hok, hlc, hcm, hs⟩ := h
  unfold maxLen at hcm
  rcases hs with ⟨hl0, hnil⟩ | ⟨b, off, rfl, hlt, hc⟩
  · clear hnil
    go_enter Try.func105, Try.ntmps105
    go_wp2
    go_loop [3, 8] (fun s i => i = .int .i64 0 ∧ s = .int .u64 0) (fun s i => 0)
    case atStart => exact ⟨rfl, rfl⟩
    case round =>
      obtain ⟨rfl, rfl⟩ := hrel
      go_wp2
      go_ret
      exact ⟨by rw [List.eq_nil_of_length_eq_zero hl0]; rfl, rfl⟩
  · go_enter Try.func105, Try.ntmps105
    go_wp2
    go_loop [3, 8] (fun s i => ∃ k : Nat, k ≤ l.length ∧ i = .int .i64 k ∧ s = .int .u64 (val (l.take k) : Nat)) (fun s i => l.length - (intOf i).toNat)
    case atStart => exact ⟨0, Nat.zero_le _, rfl, rfl⟩
    case round =>
      obtain ⟨k, hk, rfl, rfl⟩ := hrel
      by_cases hlt2 : k < l.length
      · have hcc := hc k hlt2
        have HS := hid (word_step l k hok hl hlt2)
        go_wp2
        go_round
        case rel => exact ⟨k + 1, by omega, by go_num, by rw [HS.out]⟩
        case measure => simp [intOf]; omega
      · have HS : Hid (val (l.take k) = val l) := hid (by rw [List.take_of_length_le (by omega)])
        go_wp2
        go_ret
        exact ⟨ret_int (by rw [HS.out]), rfl⟩

theorem sgn_abs (neg : Bool) (n : Nat) : (sgn neg n).natAbs = n := by cases neg <;> simp [sgn]
theorem big_no {neg : Bool} {l : List Nat} (hm : mayB neg l = true) (hl : ¬ l.length ≤ 2) : toV (sgn neg (val l)) = .tuple #[.int .i64 0, .bool false] := by
  apply toV_no
  have h1 := canon_pos (may_canon hm) (by intro h; subst h; simp at hl)
  have h2 := pw_mono (show 2 ≤ l.length - 1 by omega)
  simp only [pw] at h2
  have h3 := sgn_abs neg (val l)
  omega
theorem wrap_pos (n : Nat) (h : n < 9223372036854775808) : wrap64 (n : Int) = (n : Int) := by unfold wrap64; omega

theorem of_size (z : Int) (h1 : -9223372036854775808 ≤ z) (h2 : z < 0) : IntKind.u64.wrap (-(IntKind.u64.wrap z)) = ((z.natAbs : Nat) : Int) := by
  rw [IntKind.wrap_u64, IntKind.wrap_u64]; omega
theorem val_two (n : Nat) : val [n % 4294967296, n / 4294967296] = n := by simp [val]; omega

theorem ok_two {m : Nat} (h : m < 18446744073709551616) : ok [m % 4294967296, m / 4294967296] := by
  rw [ok_cons, ok_cons]; exact ⟨by omega, by omega, ok_nil⟩

/-- What is told in a cell of the call's own, and handed back. -/
def Told (lo : Nat) (n : Nat) (z : Int) (w : World) : Ending → World → Prop := fun e w' => ∃ neg ao k cap, e = .returned (.agg #[.bool neg, .slice ao k cap]) ∧ Is w' lo (.agg #[.bool neg, .slice ao k cap]) n z ∧ Below w.heap.size w w'

set_option maxHeartbeats 400000 in
theorem of_num (w : World) (z : Int) (h1 : -9223372036854775808 ≤ z) (h2 : z ≤ 9223372036854775807) :
    Calls Try.prog 77 #[.int .i64 z] w (Told w.heap.size 2 z w) := by
  obtain ⟨m, hm⟩ : ∃ m : Nat, m = z.natAbs := ⟨_, rfl⟩
  have hml : m < 18446744073709551616 := by omega
  have HM := hid hm
  by_cases hz : z < 0
  · have HS := hid ((of_size z h1 hz).trans (by rw [← hm]))
    clear hm
    go_enter Try.func77, Try.ntmps77
    go_wp2_with fail
    rw [HS.out]
    refine (limbsOf_any _ m hml).mono ?_
    rintro e w1 ⟨rfl, hr, hb⟩
    have hz1 := hb.size
    simp at hz1
    go_wp2_with fail
    rw [asize] at hr
    refine (made_any _ (w.heap.size + 1) true _ 2 [m % 4294967296, m / 4294967296] (by exact hr.whole (ok_two hml) (by simp)) (from_row _ _ _ (by simp))).mono ?_
    rintro e w2 ⟨neg', ao', n', cap', rfl, hI, hb2⟩
    have hW := below_call hb hb2 hb.size
    obtain ⟨hc2, hf2⟩ := bcell hW
    have HI := hid hI
    clear hI hr
    go_wp2
    refine bodyPost_ret (v := .agg #[.bool neg', .slice ao' n' cap']) (by simp [results, Try.results77, go_sem, hc2]) rfl ⟨_, _, _, _, rfl, ?_, (by repeat (first | exact Below.refl _ _ | refine Below.alloc ?_ ?_ _ | refine Below.setCell ?_ ?_ _ | refine Below.drew ?_ | refine below_drewN ?_ _ | (· simp) | omega | (· simp; omega) | exact Below.size (by assumption) | assumption | refine below_call ?_ (by assumption) ?_))⟩
    have e : sgn true (val [m % 4294967296, m / 4294967296]) = z := by
      rw [val_two]; simp [sgn]; rw [HM.out]; omega
    rw [← e]
    exact ((HI.out.setCell (by simp) _).setCell (by simp) _).mono (by omega) (by simp)
  · clear hm
    go_enter Try.func77, Try.ntmps77
    go_wp2_with fail
    have hzm : z = (m : Int) := by rw [HM.out]; omega
    clear HM
    subst hzm
    refine (limbsOf_any _ m hml).mono ?_
    rintro e w1 ⟨rfl, hr, hb⟩
    go_wp2_with fail
    rw [asize] at hr
    refine (made_any _ (w.heap.size + 1) false _ 2 [m % 4294967296, m / 4294967296] (by exact hr.whole (ok_two hml) (by simp)) (from_row _ _ _ (by simp))).mono ?_
    rintro e w2 ⟨neg', ao', n', cap', rfl, hI, hb2⟩
    have hW := below_call hb hb2 hb.size
    obtain ⟨hc2, hf2⟩ := bcell hW
    have HI := hid hI
    clear hI hr
    go_wp2
    refine bodyPost_ret (v := .agg #[.bool neg', .slice ao' n' cap']) (by simp [results, Try.results77, go_sem, hc2]) rfl ⟨_, _, _, _, rfl, ?_, (by repeat (first | exact Below.refl _ _ | refine Below.alloc ?_ ?_ _ | refine Below.setCell ?_ ?_ _ | refine Below.drew ?_ | refine below_drewN ?_ _ | (· simp) | omega | (· simp; omega) | exact Below.size (by assumption) | assumption | refine below_call ?_ (by assumption) ?_))⟩
    have e : sgn false (val [m % 4294967296, m / 4294967296]) = (m : Int) := by
      rw [val_two]; simp [sgn]
    rw [← e]
    exact ((HI.out.setCell (by simp) _).setCell (by simp) _).mono (by omega) (by simp)

end Go.Proofs.Ytalblhcfkfockaa
