/-
  Walks: lex.Lex.
-/
import Derived.Test.YtjofhaakkleecaaDoorJ6
import Derived.RegionTactic
namespace Go.Proofs.YtjofhaakkleecaaDoor
open Go.RowKit Lx
set_option linter.unusedSimpArgs false
set_option linter.unusedVariables false
set_option maxRecDepth 100000

/-- What a text's tokens are, or the first error and its place. -/
def lexS (l : List Nat) : List Tk × Nat × Nat := if 8192 < l.length then ([], 2, 8192) else lexN false l 0
/-- What Lex tells. -/
def LexOut (w : World) (a : List Tk × Nat × Nat) (e : Ending) (w' : World) : Prop :=
  ∃ v, e = .returned (.tuple #[v, .int .i64 (a.2.1 : Int), .int .i64 (a.2.2 : Int)]) ∧ OwnT w' w.heap.size v a.1 ∧ Below w.heap.size w w'

theorem firstN_end {l : List Nat} {k n : Nat} (h : firstN l = (k, n, 0)) : (l = [] → k = 0 ∧ n = 0) ∧ (l ≠ [] → k ≠ 0 ∧ 0 < n) := by
  refine ⟨fun e => by subst e; simp [firstN] at h; omega, fun e => ?_⟩
  unfold firstN at h
  rw [if_neg e] at h
  have hw : headIs isL l = true → 0 < spanN isW l := by
    intro h
    match l, h with
    | c :: r, h => simp [headIs] at h; simp [spanN, isW, h]
  have hd : headIs isD l = true → 0 < spanN isD l := by
    intro h
    match l, h with
    | c :: r, h => simp [headIs] at h; simp [spanN, h]
  by_cases h1 : headIs isL l = true
  · rw [if_pos h1] at h
    have := hw h1
    unfold wordN at h
    split at h
    · simp at h; omega
    · split at h
      · simp at h
      · simp at h; omega
  · rw [if_neg h1] at h
    by_cases h2 : headIs isD l = true
    · rw [if_pos h2] at h
      have := hd h2
      unfold numberN at h
      split at h
      · simp at h
      · split at h
        · simp at h
        · simp at h; omega
    · rw [if_neg h2] at h
      unfold signN at h
      split at h
      · simp at h; omega
      · split at h
        · simp at h; omega
        · simp at h

/-- What stands at the head of a round. -/
def LexRel (w : World) (s : ByteArray) (g gs base : Nat) (m : Nat) (tv : Value) (wr : World) : Prop :=
  ∃ (p : Nat) (L : List Tk), p ≤ s.size ∧ Hid (m = s.size - p) ∧ OwnT wr base tv L ∧ Box1 wr g (.int .i64 (p : Int)) ∧ Box1 wr gs (.string s) ∧ Hid (lexN false (lst s) 0 = comb L (lexN false ((lst s).drop p) p)) ∧ L.length ≤ p ∧ Below w.heap.size w wr ∧ base ≤ wr.heap.size

set_option maxHeartbeats 3200000 in
theorem lex_any (w : World) (s : ByteArray) (hs : s.size ≤ 9223372036854775807) :
    Calls Tryd.prog 8 #[.string s] w (LexOut w (lexS (lst s))) := by
  by_cases hbig : 8192 < s.size
  · have hbi : (8192 : Int) < (s.size : Int) := by omega
    have HS : Hid (lexS (lst s) = ([], 2, 8192)) := hid (by unfold lexS; rw [lst_length, if_pos hbig])
    clear hbig
    go_enter Tryd.func8, Tryd.ntmps8
    go_wp2
    go_ret3
    rw [HS.out]
    exact ⟨_, rfl, ownT_nil _ _, Below.refl _ _⟩
  · have hbi : ¬ (8192 : Int) < (s.size : Int) := by omega
    have hle : s.size ≤ 8192 := by omega
    have HS : Hid (lexS (lst s) = lexN false (lst s) 0) := hid (by unfold lexS; rw [lst_length, if_neg hbig])
    clear hbig
    go_enter Tryd.func8, Tryd.ntmps8
    go_wp2_with (go_at_call 14; refine (reader_any _ _).mono ?_; rintro e w1 ⟨rfl, hbs, hbg, hz, hb⟩)
    go_loopg [6] s.size (fun m tv wr => LexRel w s (w.heap.size + 1) w.heap.size (w.heap.size + 2) m tv wr)
    case atStart => exact ⟨0, [], Nat.zero_le _, hid (by omega), ownT_nil _ _, hbg, hbs, hid (by rw [List.drop_zero]; exact (comb_lex _ _ _).symm), Nat.le_refl _, hb, by omega⟩
    case round =>
      obtain ⟨p, L, hp, HGM, hown, hbgr, hbsr, HL, hLp, hbw, hbase⟩ := hrel
      clear hbs hbg hz hb
      obtain ⟨q, hq⟩ : ∃ q, q = gapN false ((lst s).drop p) := ⟨_, rfl⟩
      obtain ⟨a, ha⟩ : ∃ a, firstN ((lst s).drop (p + q)) = a := ⟨_, rfl⟩
      obtain ⟨k, n, x⟩ := a
      have HC := hid (next_any wr s (w.heap.size + 1) w.heap.size p q _ hle hp hbgr hbsr (by omega) hq ha)
      have HU := hid (lex_unfold false ((lst s).drop p) p (k, n, x) (by rw [← hq, List.drop_drop]; exact ha))
      rw [← hq, List.drop_drop, List.drop_drop] at HU
      have hqs : p + q ≤ s.size := by
        have := gapN_le false ((lst s).drop p)
        rw [List.length_drop, lst_length, ← hq] at this
        omega
      have hns : n ≤ s.size - (p + q) := by
        have := firstN_le ((lst s).drop (p + q))
        rw [List.length_drop, lst_length, ha] at this
        exact this
      have HA := hid ha
      clear ha hq
      generalize hQ : p + q = Q at *
      by_cases hx : x = 0
      · subst hx
        have HE := firstN_end HA.out
        have hdl : (lst s).drop Q = [] ↔ Q = s.size := by
          rw [List.drop_eq_nil_iff, lst_length]; omega
        go_wp2_with fail
        refine HC.out.mono ?_
        rintro e w2 ⟨hg2, ⟨hx, -⟩ | ⟨-, rfl, hb2⟩⟩
        · exact absurd rfl hx
        clear HC
        have hex : s.extract Q (Q + n) = str (((lst s).drop Q).take n) := by rw [ext_str]; congr 2; omega
        have bb := TkBox.new w2 (.int .i64 (k : Int)) (.string (s.extract Q (Q + n))) (.int .i64 (Q : Int))
        obtain ⟨t0, t1, t2⟩ := bb.c
        have tl := bb.lt
        have hz2 := hg2.size
        have HN : Hid (At3 ((w2.alloc (.cells #[.int .i64 (k : Int), .string (s.extract Q (Q + n)), .int .i64 (Q : Int)] 35)).alloc (.cells #[.int .i64 (k : Int), .string (s.extract Q (Q + n)), .int .i64 (Q : Int)] 35)) (w2.heap.size + 1) 0 ⟨k, ((lst s).drop Q).take n, Q⟩) := hid (by
          have b2 := TkBox.new (w2.alloc (.cells #[.int .i64 (k : Int), .string (s.extract Q (Q + n)), .int .i64 (Q : Int)] 35)) (.int .i64 (k : Int)) (.string (s.extract Q (Q + n))) (.int .i64 (Q : Int))
          rw [asize] at b2
          have := b2.c
          rw [hex] at this ⊢
          exact this)
        have hO2 : OwnT w2 (w.heap.size + 2) u6 L := hown.grown hg2 (by simp)
        have HO := hid ((hO2.below ((Below.refl _ _).alloc (Nat.le_refl _) (.cells #[.int .i64 (k : Int), .string (s.extract Q (Q + n)), .int .i64 (Q : Int)] 35))).below ((Below.refl _ _).alloc (Nat.le_refl _) (.cells #[.int .i64 (k : Int), .string (s.extract Q (Q + n)), .int .i64 (Q : Int)] 35)))
        have hBW : Below w.heap.size w w2 := hbw.grown hg2 (by omega) (by intro e he; simp at he; omega)
        have HBW := hid ((hBW.alloc hBW.size (.cells #[.int .i64 (k : Int), .string (s.extract Q (Q + n)), .int .i64 (Q : Int)] 35)).alloc (by simp; omega) (.cells #[.int .i64 (k : Int), .string (s.extract Q (Q + n)), .int .i64 (Q : Int)] 35))
        have HBG := hid ((hb2.alloc (.cells #[.int .i64 (k : Int), .string (s.extract Q (Q + n)), .int .i64 (Q : Int)] 35)).alloc (.cells #[.int .i64 (k : Int), .string (s.extract Q (Q + n)), .int .i64 (Q : Int)] 35))
        have HBS := hid (((hbsr.grown hg2 (by simp)).alloc (.cells #[.int .i64 (k : Int), .string (s.extract Q (Q + n)), .int .i64 (Q : Int)] 35)).alloc (.cells #[.int .i64 (k : Int), .string (s.extract Q (Q + n)), .int .i64 (Q : Int)] 35))
        have HTB := hid (bb.alloc (.cells #[.int .i64 (k : Int), .string (s.extract Q (Q + n)), .int .i64 (Q : Int)] 35))
        have HSZ : Hid (w.heap.size + 2 ≤ ((w2.alloc (.cells #[.int .i64 (k : Int), .string (s.extract Q (Q + n)), .int .i64 (Q : Int)] 35)).alloc (.cells #[.int .i64 (k : Int), .string (s.extract Q (Q + n)), .int .i64 (Q : Int)] 35)).heap.size) := hid (by simp; omega)
        have HOL : Hid (∀ g, u6.ownBlock = some g → w.heap.size + 2 ≤ g ∧ g < w2.heap.size) := hid (fun g hv => World.ownsRow.lt hO2 g hv)
        have HLK : Hid (L.length ≤ 1000000) := hid (by omega)
        have HE0 := hid HE.1
        have HE1 := hid HE.2
        have HDL := hid hdl
        have HHL := hid hLp
        clear hown hO2 hBW hbgr hbsr hbw hb2 HE hdl hex hLp hg2
        have HK := hid (Classical.em (k = 0))
        by_cases hk : k = 0
        · have HK := hid hk
          have hk0 : ((k : Int) == 0) = true := by simp; omega
          clear hk
          go_wp2_with (at_builtin; go_must (refine wpList_append_tk rfl (.tmp 24) (.tmp 26) rfl (w.heap.size + 2) _ L rfl HO.out (w2.heap.size + 1) 1 ⟨k, ((lst s).drop Q).take n, Q⟩ rfl HN.out HLK.out HSZ.out ?_); intro v3 w3 hown3 hg3; have hb3 := HTB.out.grown hg3 (fun e => by have := HOL.out _ e.symm; omega); obtain ⟨s0, s1, s2⟩ := hb3.c)
          go_ret3
          have hdn : (lst s).drop Q = [] := Classical.byContradiction (fun h => (HE1.out h).1 HK.out)
          have h0 := HE0.out hdn
          have hlx : lexS (lst s) = (L ++ [⟨k, ((lst s).drop Q).take n, Q⟩], 0, 0) := by
            rw [HS.out, HL.out, HU.out]
            simp [h0.1, h0.2, comb]
          rw [hlx]
          exact ⟨v3, rfl, hown3.low (by omega), HBW.out.grown hg3 (by simp; omega) (fun g e => by have := HOL.out g e; omega)⟩
        · have HK := hid hk
          have hk0 : ((k : Int) == 0) = false := by simp; omega
          clear hk
          go_wp2_with (at_builtin; go_must (refine wpList_append_tk rfl (.tmp 24) (.tmp 26) rfl (w.heap.size + 2) _ L rfl HO.out (w2.heap.size + 1) 1 ⟨k, ((lst s).drop Q).take n, Q⟩ rfl HN.out HLK.out HSZ.out ?_); intro v3 w3 hown3 hg3; have hb3 := HTB.out.grown hg3 (fun e => by have := HOL.out _ e.symm; omega); obtain ⟨s0, s1, s2⟩ := hb3.c)
          have hdn : (lst s).drop Q ≠ [] := fun h => HK.out (HE0.out h).1
          have hn0 := (HE1.out hdn).2
          go_roundg (s.size - (Q + n))
          case measure => have := HGM.out; omega
          case rel =>
            refine ⟨Q + n, L ++ [⟨k, ((lst s).drop Q).take n, Q⟩], by omega, hid rfl, hown3, HBG.out.grown hg3 (fun e => by have := HOL.out _ e.symm; omega), HBS.out.grown hg3 (fun e => by have := HOL.out _ e.symm; omega), hid ?_, by simp; have := HHL.out; omega, HBW.out.grown hg3 (by simp; omega) (fun g e => by have := HOL.out g e; omega), by have h1 := hg3.size; have h2 := HSZ.out; omega⟩
            rw [HL.out, HU.out]
            simp only [ne_eq, not_true_eq_false, if_false]
            rw [if_neg (by omega), comb_comb]
      · have hxi : ((x : Int) == 0) = false := by simp; omega
        go_wp2_with fail
        refine HC.out.mono ?_
        rintro e w2 ⟨hg2, ⟨-, rfl, hb2⟩ | ⟨hx0, -⟩⟩
        · have bb := TkBox.new w2 (.int .i64 0) (.string ⟨#[]⟩) (.int .i64 (Q : Int))
          obtain ⟨t0, t1, t2⟩ := bb.c
          have tl := bb.lt
          go_wp2_with fail
          have HU2 := hid (show lexN false (List.drop p (lst s)) p = ([], x, Q) by rw [HU.out, if_pos hx])
          have HBW := hid (((hbw.grown hg2 (by omega) (by intro e he; simp at he; omega)).alloc (by have := hg2.size; omega) (.cells #[.int .i64 0, .string ⟨#[]⟩, .int .i64 (Q : Int)] 35)).drew)
          have HX := hid hx
          clear hx HU hbw hg2
          go_region
          go_wp2
          go_ret3
          have hlx : lexS (lst s) = ([], x, Q) := by
            rw [HS.out, HL.out, HU2.out]
            unfold comb
            rw [if_pos HX.out]
          rw [hlx]
          exact ⟨_, rfl, ownT_nil _ _, HBW.out⟩
        · exact absurd hx0 hx

end Go.Proofs.YtjofhaakkleecaaDoor
