/-
  Walks: Read.
-/
import Derived.Test.YtkoadlacdgdemaaW28
import Derived.Test.YtkoadlacdgdemaaW19
namespace Go.Proofs.Ytkoadlacdgdemaa
open Go.RowKit Lm
set_option linter.unusedSimpArgs false
set_option linter.unusedVariables false
set_option maxRecDepth 100000

/-- What stands at the head of a round of limbsOfDigits. -/
def LDRel (w0 : World) (s : ByteArray) (dv lv : Value) (wr : World) : Prop :=
  ∃ (k : Nat) (t : ByteArray) (ao : Option Addr) (cap n : Nat) (l : List Nat), dv = .string t ∧ lv = .slice ao n cap ∧ k ≤ s.size ∧ Hid (lst t = (lst s).drop k) ∧ Hid (k = 0 ∨ t.size % 9 = 0) ∧ Hid (n = l.length) ∧ wr.ownsRow w0.heap.size 68 1 (.slice ao n cap) n (U l) ∧ ok l ∧ Hid (val l = dval ((lst s).take k)) ∧ l.length ≤ k ∧ Below w0.heap.size w0 wr

theorem size_lst {s t : ByteArray} {k : Nat} (h : lst t = (lst s).drop k) : t.size = s.size - k := by
  rw [← lst_length t, h, List.length_drop, lst_length]

set_option maxHeartbeats 3200000 in
theorem limbsOfDigits_any (w : World) (s : ByteArray) (hs : s.size ≤ 100000) (hd : dig (lst s)) :
    Calls Try.prog 39 #[.string s] w (TBPost w s.size (dval (lst s))) := by
  have HD := hid hd
  clear hd
  go_enter Try.func39, Try.ntmps39
  go_wp2
  go_loopw [0, 3] (fun dv lv wr => LDRel w s dv lv wr) (fun dv _ _ => (match dv with | .string t => t.size | _ => 0))
  case atStart => exact ⟨0, s, none, 0, 0, [], rfl, rfl, Nat.zero_le _, by simp [Hid], .inl rfl, rfl, World.ownsRow_nil _ _ _ _, ok_nil, by simp [Hid, val, dval, decv], Nat.zero_le _, Below.refl _ _⟩
  case round =>
    obtain ⟨k, t, ao, cap, n, l, rfl, rfl, hk, HT, HM, HN, hown, hok, HV, hlk, hbw⟩ := hrel
    have hts := size_lst HT.out
    by_cases h0 : t.size = 0
    · have hke : k = s.size := by omega
      have HF : Hid (TBPost w s.size (dval (lst s)) (.returned (.slice ao n cap)) wr) := ⟨ao, cap, n, l, rfl, HN, hown, hok, by rw [HV.out, List.take_of_length_le (by rw [lst_length]; omega)], by omega, hbw⟩
      have h0i : ¬ (0 : Int) < (t.size : Int) := by omega
      clear hts hke
      go_wp2
      go_ret
      exact HF.out
    · obtain ⟨q, hq⟩ : ∃ q : Nat, q = (t.size - 1) % 9 + 1 := ⟨_, rfl⟩
      have hq1 : 1 ≤ q := by omega
      have hq2 : q ≤ 9 := by omega
      have hq3 : q ≤ t.size := by omega
      have hqe : ((t.size : Int) - 1) % 9 + 1 = (q : Int) := by omega
      have hti : (0 : Int) < (t.size : Int) := by omega
      have htm : t.size ≤ 100000 := by omega
      have HQ9 : Hid (k = 0 ∨ q = 9) := hid (by
        rcases HM.out with h | h
        · exact .inl h
        · right; omega)
      have HQM : Hid ((t.size - q) % 9 = 0) := hid (by omega)
      have HTS := hid hts
      clear hq hts
      go_wp2_with fail
      have HG : Hid (lst (t.extract 0 q) = ((lst s).drop k).take q) := hid (by rw [lst_extract, HT.out]; simp)
      have HGD : Hid (dig (lst (t.extract 0 q))) := hid (by
        rw [HG.out]
        intro c hc
        exact HD.out c (List.mem_of_mem_drop (List.mem_of_mem_take hc)))
      have HGS : Hid ((t.extract 0 q).size = q) := hid (by
        rw [← lst_length, HG.out, List.length_take, List.length_drop, lst_length]
        have := HTS.out
        omega)
      refine (groupOf_any _ (t.extract 0 q) (by rw [HGS.out]; exact hq2) HGD.out).mono ?_
      rintro e w1 ⟨rfl, rfl⟩
      have hgl : dval (lst (t.extract 0 q)) < 4294967296 := by
        have h1 := dval_lt HGD.out
        rw [lst_length, HGS.out] at h1
        have h2 := p10_mono hq2
        simp only [p10] at h2
        omega
      go_wp2_with fail
      refine (timesBase_any w _ ao cap n l _ HN.out hown hok (by omega) hgl hbw).mono ?_
      rintro e w2 ⟨ao2, cap2, k2, l2, rfl, HK2, hown2, hok2, hv2, hl2, hb2⟩
      have HV2 : Hid (val l2 = dval ((lst s).take (k + q))) := hid (by
        rw [hv2, List.take_add, dval_append, ← HG.out]
        congr 1
        rw [lst_length, HGS.out, ← HV.out]
        rcases HQ9.out with h | h
        · have h3 : val l = 0 := by rw [HV.out, h]; rfl
          rw [h3, Nat.zero_mul, Nat.zero_mul]
        · rw [h]; simp [p10])
      have HT2 : Hid (lst (t.extract q t.size) = (lst s).drop (k + q)) := hid (by
        rw [lst_extract, HT.out, List.drop_drop, List.take_of_length_le]
        rw [List.length_drop, lst_length]
        have := HTS.out
        omega)
      have HS2 : Hid ((t.extract q t.size).size = t.size - q) := hid (by
        rw [size_lst HT2.out]
        have := HTS.out
        omega)
      have hkq : k + q ≤ s.size := by have := HTS.out; omega
      clear hv2
      go_wp2
      go_roundw
      case rel => exact ⟨k + q, t.extract q t.size, ao2, cap2, k2, l2, rfl, rfl, hkq, HT2, hid (.inr (by rw [HS2.out]; exact HQM.out)), HK2, hown2, hok2, HV2, by omega, hb2⟩
      case measure =>
        have := HS2.out
        simp only []
        omega

/-- What Read tells. -/
def ReadPost (w : World) (s : ByteArray) (e : Ending) (w' : World) : Prop :=
  (5000 < s.size ∧ e = .returned (.tuple #[.agg #[.bool false, .slice none 0 0], .int .i64 2]) ∧ Below w.heap.size w w') ∨
  (s.size ≤ 5000 ∧ ¬ mayRead (lst s) ∧ e = .returned (.tuple #[.agg #[.bool false, .slice none 0 0], .int .i64 4]) ∧ Below w.heap.size w w') ∨
  (s.size ≤ 5000 ∧ mayRead (lst s) ∧ ∃ neg ao k cap, e = .returned (.tuple #[.agg #[.bool neg, .slice ao k cap], .int .i64 0]) ∧ Is w' w.heap.size (.agg #[.bool neg, .slice ao k cap]) s.size (readV (lst s)) ∧ Below w.heap.size w w')

theorem zero_text (s : ByteArray) : ((s.toList == [48]) : Bool) = decide (lst s = [48]) := by
  rw [lst]
  by_cases h : s.toList = [48]
  · rw [h]; rfl
  · have h2 : ¬ s.toList.map UInt8.toNat = [48] := by
      intro e
      apply h
      exact map_toNat_inj _ _ e
    rw [decide_eq_false h2]
    simpa using h

set_option maxHeartbeats 3200000 in
theorem read_num (w : World) (s : ByteArray) (hs : s.size ≤ 9223372036854775807) :
    Calls Try.prog 11 #[.string s] w (ReadPost w s) := by
  by_cases hbig : 5000 < s.size
  · have hbi : (5000 : Int) < (s.size : Int) := by omega
    have HB := hid hbig
    clear hbig
    go_enter Try.func11, Try.ntmps11
    go_wp2
    refine bodyPost_ret (v := .tuple #[.agg #[.bool false, .slice none 0 0], .int .i64 2]) ?_ rfl (.inl ⟨HB.out, rfl, (by repeat (first | exact Below.refl _ _ | refine Below.alloc ?_ ?_ _ | refine Below.setCell ?_ ?_ _ | refine Below.drew ?_ | refine below_drewN ?_ _ | (· simp) | omega | (· simp; omega) | exact Below.size (by assumption) | assumption | refine below_call ?_ (by assumption) ?_))⟩)
    simp [results, Try.results11, go_sem]
  · have hbi : ¬ (5000 : Int) < (s.size : Int) := by omega
    have hle : s.size ≤ 5000 := by omega
    clear hbig
    have hcs := cut_size s
    have HC := hid (lst_cut s)
    go_enter Try.func11, Try.ntmps11
    go_wp2_with fail
    refine (cutPrefix_any _ s hs).mono ?_
    rintro e w1 ⟨rfl, rfl⟩
    go_wp2_with fail
    refine (areDigits_any _ (cutV s) (by omega)).mono ?_
    rintro e w2 ⟨b, rfl, hb, rfl⟩
    rw [HC.out] at hb
    have HB := hid hb
    clear hb
    cases b
    · have HF : Hid (¬ mayRead (lst s)) := hid (fun h => by have := HB.out.2 h.1; simp at this)
      go_wp2
      refine bodyPost_ret (v := .tuple #[.agg #[.bool false, .slice none 0 0], .int .i64 4]) ?_ rfl (.inr (.inl ⟨hle, HF.out, rfl, (by repeat (first | exact Below.refl _ _ | refine Below.alloc ?_ ?_ _ | refine Below.setCell ?_ ?_ _ | refine Below.drew ?_ | refine below_drewN ?_ _ | (· simp) | omega | (· simp; omega) | exact Below.size (by assumption) | assumption | refine below_call ?_ (by assumption) ?_))⟩))
      simp [results, Try.results11, go_sem]
    · have HG : Hid (goodD (bodyOf (lst s))) := hid (HB.out.1 rfl)
      have HZ := hid (zero_text (cutV s))
      rw [HC.out] at HZ
      cases hn : isNeg (lst s)
      · have HF : Hid (mayRead (lst s)) := hid ⟨HG.out, by rw [hn]; simp⟩
        have HR : Hid (readV (lst s) = sgn false (dval (lst (cutV s)))) := hid (by rw [readV, hn, HC.out])
        go_wp2_with fail
        refine (limbsOfDigits_any _ (cutV s) (by omega) (by rw [HC.out]; exact HG.out.2.1)).mono ?_
        rintro e w5 ⟨ao5, cap5, k5, l5, rfl, HK5, hown5, hok5, hv5, hl5, hb5⟩
        have hs5 : SlAt w5 ao5 cap5 l5 := own_slAt (by rw [← HK5.out]; exact hown5) hok5
        obtain ⟨ao5', cap5', e5, hf5⟩ := own_shape hown5
        simp only [Value.slice.injEq, true_and] at e5
        obtain ⟨rfl, rfl⟩ := e5
        have bx5 := (Box.new w (.bool false) (.slice none 0 0) w.heap.size rfl).keep hb5
        have hW5 : Below w.heap.size w w5 := (by repeat (first | exact Below.refl _ _ | refine Below.alloc ?_ ?_ _ | refine Below.setCell ?_ ?_ _ | refine Below.drew ?_ | refine below_drewN ?_ _ | (· simp) | omega | (· simp; omega) | exact Below.size (by assumption) | assumption | refine below_call ?_ (by assumption) ?_))
        have HV5 := hid hv5
        have hz5 := hb5.size
        simp only [asize] at hf5 hz5
        clear hb5 hown5 hv5
        go_wp2_with fail
        refine (made_k _ (w.heap.size + 1) false _ _ k5 l5 HK5.out hs5 hf5).mono ?_
        rw [HV5.out]
        rintro e w6 ⟨nr, ar, kr, cr, rfl, HI, hb6⟩
        have bx := bx5.keep hb6
        have x0 := bx.c0
        have x1 := bx.c1
        have xf := bx.f
        have hW6 := below_call hW5 hb6 (by omega)
        clear bx hb6 bx5
        go_wp2
        refine bodyPost_ret (v := .tuple #[.agg #[.bool nr, .slice ar kr cr], .int .i64 0]) ?_ rfl (.inr (.inr ⟨hle, HF.out, nr, ar, kr, cr, rfl, ?_, (by repeat (first | exact Below.refl _ _ | refine Below.alloc ?_ ?_ _ | refine Below.setCell ?_ ?_ _ | refine Below.drew ?_ | refine below_drewN ?_ _ | (· simp) | omega | (· simp; omega) | exact Below.size (by assumption) | assumption | refine below_call ?_ (by assumption) ?_))⟩))
        · simp [results, Try.results11, go_sem, x0, x1]
        · rw [HR.out]
          exact ((HI.out.setCell (by simp) _).setCell (by simp) _).mono (by omega) (by omega)
      · by_cases hz : bodyOf (lst s) = [48]
        · have HF : Hid (¬ mayRead (lst s)) := hid (fun h => h.2 ⟨hn, hz⟩)
          have hzz : ((cutV s).toList == [48]) = true := by rw [HZ.out, decide_eq_true hz]
          have hzl : (cutV s).toList = [48] := by simpa using hzz
          clear hz hzz
          go_wp2
          refine bodyPost_ret (v := .tuple #[.agg #[.bool false, .slice none 0 0], .int .i64 4]) ?_ rfl (.inr (.inl ⟨hle, HF.out, rfl, (by repeat (first | exact Below.refl _ _ | refine Below.alloc ?_ ?_ _ | refine Below.setCell ?_ ?_ _ | refine Below.drew ?_ | refine below_drewN ?_ _ | (· simp) | omega | (· simp; omega) | exact Below.size (by assumption) | assumption | refine below_call ?_ (by assumption) ?_))⟩))
          simp [results, Try.results11, go_sem]
        · have HF : Hid (mayRead (lst s)) := hid ⟨HG.out, fun h => hz h.2⟩
          have HR : Hid (readV (lst s) = sgn true (dval (lst (cutV s)))) := hid (by rw [readV, hn, HC.out])
          have hzz : ((cutV s).toList == [48]) = false := by rw [HZ.out, decide_eq_false hz]
          clear hz
          go_wp2_with fail
          refine (limbsOfDigits_any _ (cutV s) (by omega) (by rw [HC.out]; exact HG.out.2.1)).mono ?_
          rintro e w5 ⟨ao5, cap5, k5, l5, rfl, HK5, hown5, hok5, hv5, hl5, hb5⟩
          have hs5 : SlAt w5 ao5 cap5 l5 := own_slAt (by rw [← HK5.out]; exact hown5) hok5
          obtain ⟨ao5', cap5', e5, hf5⟩ := own_shape hown5
          simp only [Value.slice.injEq, true_and] at e5
          obtain ⟨rfl, rfl⟩ := e5
          have bx5 := (Box.new w (.bool false) (.slice none 0 0) w.heap.size rfl).keep hb5
          have hW5 : Below w.heap.size w w5 := (by repeat (first | exact Below.refl _ _ | refine Below.alloc ?_ ?_ _ | refine Below.setCell ?_ ?_ _ | refine Below.drew ?_ | refine below_drewN ?_ _ | (· simp) | omega | (· simp; omega) | exact Below.size (by assumption) | assumption | refine below_call ?_ (by assumption) ?_))
          have HV5 := hid hv5
          have hz5 := hb5.size
          simp only [asize] at hf5 hz5
          clear hb5 hown5 hv5
          go_wp2_with fail
          refine (made_k _ (w.heap.size + 1) true _ _ k5 l5 HK5.out hs5 hf5).mono ?_
          rw [HV5.out]
          rintro e w6 ⟨nr, ar, kr, cr, rfl, HI, hb6⟩
          have bx := bx5.keep hb6
          have x0 := bx.c0
          have x1 := bx.c1
          have xf := bx.f
          have hW6 := below_call hW5 hb6 (by omega)
          clear bx hb6 bx5
          go_wp2
          refine bodyPost_ret (v := .tuple #[.agg #[.bool nr, .slice ar kr cr], .int .i64 0]) ?_ rfl (.inr (.inr ⟨hle, HF.out, nr, ar, kr, cr, rfl, ?_, (by repeat (first | exact Below.refl _ _ | refine Below.alloc ?_ ?_ _ | refine Below.setCell ?_ ?_ _ | refine Below.drew ?_ | refine below_drewN ?_ _ | (· simp) | omega | (· simp; omega) | exact Below.size (by assumption) | assumption | refine below_call ?_ (by assumption) ?_))⟩))
          · simp [results, Try.results11, go_sem, x0, x1]
          · rw [HR.out]
            exact ((HI.out.setCell (by simp) _).setCell (by simp) _).mono (by omega) (by omega)

end Go.Proofs.Ytkoadlacdgdemaa
