/-
  Walks: the document's own Lex.
-/
import Derived.Test.YthgghkcmhiomeaaJ10
namespace Go.Proofs.Ythgghkcmhiomeaa
open Go.RowKit Lx
set_option linter.unusedSimpArgs false
set_option linter.unusedVariables false
set_option maxRecDepth 100000

/-- What stands at the head of a round. -/
def RLexRel (w : World) (s : ByteArray) (ov iv : Value) (wr : World) : Prop :=
  ∃ (i : Nat) (L : List Tk), i ≤ s.size ∧ iv = .int .i64 (i : Int) ∧ OwnT wr w.heap.size ov L ∧ Hid (lexN false (lst s) 0 = comb L (lexN false ((lst s).drop i) i)) ∧ L.length ≤ i ∧ Below w.heap.size w wr
/-- A token that has just been laid. -/
theorem at3_new (w : World) (t : Tk) (v : ByteArray) (hv : v = str t.t) : At3 (w.alloc (.cells #[.int .i64 (t.k : Int), .string v, .int .i64 (t.p : Int)] 33)) w.heap.size 0 t := by
  subst hv
  exact (TkBox.new w _ _ _).c
/-- A round that has told a token. -/
theorem rlex_next {w wr w3 : World} {s : ByteArray} {u5 v3 : Value} {L : List Tk} {t : Tk} {o : Obj} {i n : Nat} (hO : OwnT wr w.heap.size u5 L) (hown3 : OwnT w3 w.heap.size v3 (L ++ [t])) (hg3 : (wr.alloc o).grownBy w3 u5.ownBlock) (hbw : Below w.heap.size w wr) (hle : i + n ≤ s.size) (hn : 0 < n) (hLi : L.length ≤ i)
    (HL : Hid (lexN false (lst s) 0 = comb L (lexN false ((lst s).drop i) i))) (ht : lexN false ((lst s).drop i) i = comb [t] (lexN false ((lst s).drop (i + n)) (i + n))) : RLexRel w s v3 (.int .i64 ((i + n : Nat) : Int)) w3 := by
  refine ⟨i + n, L ++ [t], hle, rfl, hown3, hid (by rw [HL.out, ht, comb_comb]), by simp; omega, ?_⟩
  exact (hbw.alloc hbw.size _).grown hg3 (by simp; have := hbw.size; omega) (fun g e => (World.ownsRow.lt hO g e).1)
/-- A round that has told an error. -/
theorem rlex_err {w wr : World} {s : ByteArray} {L : List Tk} {i x : Nat} (hle : s.size ≤ 8192) (hbw : Below w.heap.size w wr) (HL : Hid (lexN false (lst s) 0 = comb L (lexN false ((lst s).drop i) i))) (hx : x ≠ 0) (ht : lexN false ((lst s).drop i) i = ([], x, i)) :
    LexOut w (lexS (lst s)) (.returned (.tuple #[.slice none 0 0, .int .i64 (x : Int), .int .i64 (i : Int)])) wr := by
  have e : lexS (lst s) = ([], x, i) := by
    unfold lexS
    rw [lst_length, if_neg (by omega), HL.out, ht]
    unfold comb
    rw [if_pos hx]
  rw [e]
  exact ⟨_, rfl, ownT_nil _ _, hbw⟩

theorem not_bad {a b c : Prop} (h : ¬ a ∨ ¬ b) (h2 : ¬ c) : ¬ ((a ∧ b) ∨ c) := by
  rintro (⟨q1, q2⟩ | q)
  · rcases h with h | h
    · exact h q1
    · exact h q2
  · exact h2 q

set_option maxHeartbeats 12800000 in
theorem rlex_any (w : World) (s : ByteArray) (hs : s.size ≤ 9223372036854775807) :
    Calls Try.prog 9 #[.string s] w (LexOut w (lexS (lst s))) := by
  by_cases hbig : 8192 < s.size
  · have hbi : (8192 : Int) < (s.size : Int) := by omega
    have HS : Hid (lexS (lst s) = ([], 2, 8192)) := hid (by unfold lexS; rw [lst_length, if_pos hbig])
    clear hbig
    go_enter Try.func9, Try.ntmps9
    go_wp2
    go_ret3
    rw [HS.out]
    exact ⟨_, rfl, ownT_nil _ _, Below.refl _ _⟩
  · have hbi : ¬ (8192 : Int) < (s.size : Int) := by omega
    have hle : s.size ≤ 8192 := by omega
    have HS : Hid (lexS (lst s) = lexN false (lst s) 0) := hid (by unfold lexS; rw [lst_length, if_neg hbig])
    clear hbig
    go_enter Try.func9, Try.ntmps9
    go_wp2_with fail
    go_loopw [5, 6] (fun ov iv wr => RLexRel w s ov iv wr) (fun ov iv wr => s.size - (intOf iv).toNat)
    case atStart => exact ⟨0, [], Nat.zero_le _, rfl, ownT_nil _ _, hid (by rw [List.drop_zero]; exact (comb_lex _ _ _).symm), Nat.le_refl _, Below.refl _ _⟩
    case round =>
      obtain ⟨i, L, hi, rfl, hO, HL, hLi, hbw⟩ := hrel
      by_cases hlt : i < s.size
      · by_cases hB : isB s[i].toNat = true
        · have HB := hid hB
          have hE := isB_yes hB
          clear hB
          have HO := hid hO
          clear hO
          rcases hE with hE | hE | hE | hE
          · as_aux_lemma =>
              have c1 : ((s[i].toNat : Int) == 32) = true := by simp; omega
              clear hE
              go_wp2_with fail
              go_roundw
              case rel => exact ⟨i + 1, L, by omega, by go_num, HO.out, hid (by rw [HL.out, lst_drop s i hlt, lex_blank HB.out]), by omega, hbw⟩
              case measure => simp [intOf]; omega
          · as_aux_lemma =>
              have c1 : ((s[i].toNat : Int) == 32) = false := by simp; omega
              have c2 : ((s[i].toNat : Int) == 9) = true := by simp; omega
              clear hE
              go_wp2_with fail
              go_roundw
              case rel => exact ⟨i + 1, L, by omega, by go_num, HO.out, hid (by rw [HL.out, lst_drop s i hlt, lex_blank HB.out]), by omega, hbw⟩
              case measure => simp [intOf]; omega
          · as_aux_lemma =>
              have c1 : ((s[i].toNat : Int) == 32) = false := by simp; omega
              have c2 : ((s[i].toNat : Int) == 9) = false := by simp; omega
              have c3 : ((s[i].toNat : Int) == 10) = true := by simp; omega
              clear hE
              go_wp2_with fail
              go_roundw
              case rel => exact ⟨i + 1, L, by omega, by go_num, HO.out, hid (by rw [HL.out, lst_drop s i hlt, lex_blank HB.out]), by omega, hbw⟩
              case measure => simp [intOf]; omega
          · as_aux_lemma =>
              have c1 : ((s[i].toNat : Int) == 32) = false := by simp; omega
              have c2 : ((s[i].toNat : Int) == 9) = false := by simp; omega
              have c3 : ((s[i].toNat : Int) == 10) = false := by simp; omega
              have c4 : ((s[i].toNat : Int) == 13) = true := by simp; omega
              clear hE
              go_wp2_with fail
              go_roundw
              case rel => exact ⟨i + 1, L, by omega, by go_num, HO.out, hid (by rw [HL.out, lst_drop s i hlt, lex_blank HB.out]), by omega, hbw⟩
              case measure => simp [intOf]; omega
        · have hBf : isB s[i].toNat = false := by simpa using hB
          obtain ⟨c1, c2, c3, c4⟩ := isB_no hBf
          have HBF := hid hBf
          clear hB hBf
          by_cases h35 : s[i].toNat = 35
          · as_aux_lemma =>
              have c5 : ((s[i].toNat : Int) == 35) = true := by simp; omega
              have H35 := hid h35
              have HO := hid hO
              clear hO h35
              go_wp2_with fail
              go_loop [6] (fun jv => ∃ j : Nat, i ≤ j ∧ j ≤ s.size ∧ jv = .int .i64 (j : Int) ∧ Hid (lexN false ((lst s).drop i) i = lexN true ((lst s).drop j) j)) (fun jv => s.size - (intOf jv).toNat)
              case atStart => exact ⟨i, Nat.le_refl _, hi, rfl, hid (by rw [lst_drop s i hlt, H35.out, lex_hash'])⟩
              case round =>
                obtain ⟨j, hij, hj, rfl, HJ⟩ := hrel
                by_cases hjl : j < s.size
                · by_cases h10 : s[j].toNat = 10
                  · have d1 : ((s[j].toNat : Int) == 10) = true := by simp; omega
                    have hne : i ≠ j := by
                      intro e
                      subst e
                      have := H35.out
                      omega
                    have H10 := hid h10
                    clear h10
                    go_wp2_with fail
                    go_roundw
                    case rel => exact ⟨j, L, by omega, by go_num, HO.out, hid (by rw [HL.out, HJ.out, lst_drop s j hjl, H10.out, lex_rem_line]), by omega, hbw⟩
                    case measure => simp [intOf]; omega
                  · have d1 : ((s[j].toNat : Int) == 10) = false := by simp; omega
                    have H10 := hid h10
                    clear h10
                    go_wp2_with fail
                    go_round
                    case rel => exact ⟨j + 1, by omega, by omega, by go_num, hid (by rw [HJ.out, lst_drop s j hjl, lex_rem H10.out])⟩
                    case measure => simp [intOf]; omega
                · go_wp2_with fail
                  go_roundw
                  case rel => exact ⟨j, L, by omega, by go_num, HO.out, hid (by rw [HL.out, HJ.out, drop_end s j (by omega), lex_rem_nil]), by omega, hbw⟩
                  case measure => simp [intOf]; omega
          · have c5 : ((s[i].toNat : Int) == 35) = false := by simp; omega
            have H35 := hid h35
            clear h35
            have HO0 := hid hO
            have HLK : Hid (L.length ≤ 1000000) := hid (by omega)
            have hsz := hbw.size
            cases hLt : isL s[i].toNat
            · cases hDt : isD s[i].toNat
              · as_aux_lemma =>
                  have HLT := hid hLt
                  have HDT := hid hDt
                  have HF := hid (first_sign hlt hLt hDt)
                  clear hLt hDt
                  obtain ⟨n, hn⟩ : ∃ n, n = (signN ((lst s).drop i)).2.1 := ⟨_, rfl⟩
                  have hsx : (signN ((lst s).drop i) = (4, n, 0) ∧ 0 < n ∧ i + n ≤ s.size) ∨ (signN ((lst s).drop i) = (0, 0, 3) ∧ n = 0) := by
                    have h2 := firstN_le ((lst s).drop i)
                    rw [HF.out, List.length_drop, lst_length, ← hn] at h2
                    unfold signN at hn ⊢
                    split
                    · rename_i h; rw [if_pos h] at hn; left; simp at hn; subst hn; exact ⟨rfl, by omega, by omega⟩
                    · rename_i h
                      rw [if_neg h] at hn
                      split
                      · rename_i h3; rw [if_pos h3] at hn; left; simp at hn; subst hn; exact ⟨rfl, by omega, by omega⟩
                      · rename_i h3; rw [if_neg h3] at hn; right; simp at hn; exact ⟨rfl, hn⟩
                  have HC := hid (rsign_any wr s i n hle hlt hn)
                  clear hn
                  rcases hsx with ⟨hx, hn0, hin⟩ | ⟨hx, hn0⟩
                  · have hex : s.extract i (i + n) = str (((lst s).drop i).take n) := by rw [ext_str]; congr 2; omega
                    have hem : (s.extract i (i + n)).toList.isEmpty = false := by
                      rw [List.isEmpty_eq_false_iff]
                      intro e
                      have h3 : (s.extract i (i + n)).toList.length = 0 := by rw [e]; rfl
                      rw [toList_len, ByteArray.size_extract] at h3
                      omega
                    have hez : ((s.extract i (i + n)).size : Int) = (n : Int) := by rw [ByteArray.size_extract]; omega
                    have hnz : (n : Int) ≤ 8192 := by omega
                    have HX := hid hx
                    have HN := hid (at3_new wr ⟨4, ((lst s).drop i).take n, i⟩ (s.extract i (i + n)) hex)
                    have HO := hid (hO.below ((Below.refl _ _).alloc (Nat.le_refl _) (.cells #[.int .i64 4, .string (s.extract i (i + n)), .int .i64 (i : Int)] 33)))
                    have HSZ : Hid (w.heap.size ≤ (wr.alloc (.cells #[.int .i64 4, .string (s.extract i (i + n)), .int .i64 (i : Int)] 33)).heap.size) := hid (by simp; omega)
                    clear hO hex hx
                    go_wp2_with (first | (go_at_call 13; refine (rLetter_b _ _ _ HLT.out).mono ?_; rintro e w4 ⟨rfl, hw4⟩; subst w4) | (go_at_call 14; refine (rDigit_b _ _ _ HDT.out).mono ?_; rintro e w4 ⟨rfl, hw4⟩; subst w4) | (go_at_call 16; refine HC.out.mono ?_; rintro e w4 ⟨rfl, hw4⟩; subst w4) | (at_builtin; go_must (refine wpList_append_tk rfl (.tmp 28) (.tmp 32) rfl w.heap.size _ L rfl HO.out wr.heap.size 1 ⟨4, ((lst s).drop i).take n, i⟩ rfl HN.out HLK.out HSZ.out ?_); intro v3 w3 hown3 hg3))
                    go_roundw
                    case rel => exact (show Value.int .i64 ((i : Int) + (n : Int)) = .int .i64 ((i + n : Nat) : Int) by rw [Int.natCast_add]) ▸ rlex_next HO0.out hown3 hg3 hbw hin hn0 hLi HL (lex_at hlt HBF.out H35.out (HF.out.trans HX.out) (by omega))
                    case measure => simp [intOf]; omega
                  · subst hn0
                    have hem : (s.extract i (i + 0)).toList.isEmpty = true := by
                      rw [Nat.add_zero, ext_empty, ByteArray.toList_mk]; rfl
                    have HX := hid hx
                    clear hO hx
                    go_wp2_with (first | (go_at_call 13; refine (rLetter_b _ _ _ HLT.out).mono ?_; rintro e w4 ⟨rfl, hw4⟩; subst w4) | (go_at_call 14; refine (rDigit_b _ _ _ HDT.out).mono ?_; rintro e w4 ⟨rfl, hw4⟩; subst w4) | (go_at_call 16; refine HC.out.mono ?_; rintro e w4 ⟨rfl, hw4⟩; subst w4))
                    go_ret3
                    exact rlex_err (x := 3) hle hbw HL (by decide) (lex_at_err hlt HBF.out H35.out (HF.out.trans HX.out) (by decide))
              · as_aux_lemma =>
                  obtain ⟨nb, n35⟩ := isD_no hDt
                  have HLT := hid hLt
                  have HDT := hid hDt
                  have HF := hid (first_number hlt hLt hDt)
                  have hge : 0 < spanN isD ((lst s).drop i) := by
                    rw [lst_drop s i hlt]
                    simp [spanN, hDt]
                  have HGE := hid hge
                  clear hLt hDt nb n35 hge hO
                  go_wp2_with (first | (go_at_call 13; refine (rLetter_b _ _ _ HLT.out).mono ?_; rintro e w4 ⟨rfl, hw4⟩; subst w4) | (go_at_call 14; refine (rDigit_b _ _ _ HDT.out).mono ?_; rintro e w4 ⟨rfl, hw4⟩; subst w4))
                  go_loop [10] (fun kv => ∃ k : Nat, i ≤ k ∧ k ≤ s.size ∧ kv = .int .i64 (k : Int) ∧ Hid (spanN isD ((lst s).drop i) + i = k + spanN isD ((lst s).drop k))) (fun kv => s.size - (intOf kv).toNat)
                  case atStart => exact ⟨i, Nat.le_refl _, hi, rfl, hid (by omega)⟩
                  case round =>
                    obtain ⟨k, hik, hk, rfl, HK⟩ := hrel
                    by_cases hkl : k < s.size
                    · cases hdk : isD s[k].toNat
                      · have HDK := hid hdk
                        have HK2 := span_stop hkl hdk HK.out
                        have hki : i < k := by have := HGE.out; omega
                        have HW : Hid (numberN ((lst s).drop i) = if 9 < k - i then (0, 0, 2) else if (1 < k - i ∧ (s[i].toNat == 48) = true) ∨ isW s[k].toNat = true then (0, 0, 3) else (2, k - i, 0)) := hid (by
                          unfold numberN
                          rw [headIs_drop (· == 48) s i hlt, List.drop_drop, show i + spanN isD ((lst s).drop i) = k by omega, headIs_drop isW s k hkl, show spanN isD ((lst s).drop i) = k - i by omega])
                        clear HK2
                        cases hlk : isL s[k].toNat <;> cases h95 : (s[k].toNat == 95)
                        all_goals
                          have hww : isW s[k].toNat = (isL s[k].toNat || isD s[k].toNat || s[k].toNat == 95) := rfl
                          rw [hlk, hdk, h95] at hww
                          simp only [Bool.or_false, Bool.or_true, Bool.false_or, Bool.true_or] at hww
                          have HWW := hid hww
                          have HLK2 := hid hlk
                          have h95i : ((s[k].toNat : Int) == 95) = (s[k].toNat == 95) := by rw [Bool.eq_iff_iff]; simp; omega
                          rw [h95] at h95i
                          clear hlk hdk h95 hww
                          by_cases h9 : 9 < k - i
                          · have h9i : (9 : Int) < (k : Int) - (i : Int) := by omega
                            have H9 := hid h9
                            clear h9
                            go_wp2_with (first | (go_at_call 13; refine (rLetter_b _ _ _ HLK2.out).mono ?_; rintro e w4 ⟨rfl, hw4⟩; subst w4) | (go_at_call 14; refine (rDigit_b _ _ _ HDK.out).mono ?_; rintro e w4 ⟨rfl, hw4⟩; subst w4))
                            go_ret3
                            exact rlex_err (x := 2) hle hbw HL (by decide) (lex_at_err hlt HBF.out H35.out (HF.out.trans (HW.out.trans (by rw [if_pos H9.out]))) (by decide))
                          · have h9i : ¬ (9 : Int) < (k : Int) - (i : Int) := by omega
                            have H9 := hid h9
                            clear h9
                            have h48i : ((s[i].toNat : Int) == 48) = (s[i].toNat == 48) := by rw [Bool.eq_iff_iff]; simp; omega
                            cases h48 : (s[i].toNat == 48)
                            all_goals
                              rw [h48] at h48i
                              have H48 := hid h48
                              clear h48
                              by_cases h1 : 1 < k - i
                            all_goals
                              have h1i : ((1 : Int) < (k : Int) - (i : Int)) = (1 < k - i) := by rw [eq_iff_iff]; omega
                              have H1 := hid h1
                              simp only [h1, eq_iff_iff, iff_true, iff_false] at h1i
                              clear h1
                              have HN := hid (at3_new wr ⟨2, ((lst s).drop i).take (k - i), i⟩ (s.extract i k) (ext_str s i k))
                              have HO := hid (HO0.out.below ((Below.refl _ _).alloc (Nat.le_refl _) (.cells #[.int .i64 2, .string (s.extract i k), .int .i64 (i : Int)] 33)))
                              have HSZ : Hid (w.heap.size ≤ (wr.alloc (.cells #[.int .i64 2, .string (s.extract i k), .int .i64 (i : Int)] 33)).heap.size) := hid (by simp; omega)
                              go_wp2_with (first | (go_at_call 13; refine (rLetter_b _ _ _ HLK2.out).mono ?_; rintro e w4 ⟨rfl, hw4⟩; subst w4) | (go_at_call 14; refine (rDigit_b _ _ _ HDK.out).mono ?_; rintro e w4 ⟨rfl, hw4⟩; subst w4) | (at_builtin; go_must (refine wpList_append_tk rfl (.tmp 167) (.tmp 174) rfl w.heap.size _ L rfl HO.out wr.heap.size 1 ⟨2, ((lst s).drop i).take (k - i), i⟩ rfl HN.out HLK.out HSZ.out ?_); intro v3 w3 hown3 hg3))
                              first
                                | (go_ret3
                                   exact rlex_err (x := 3) hle hbw HL (by decide) (lex_at_err hlt HBF.out H35.out (HF.out.trans (HW.out.trans (by rw [if_neg H9.out, if_pos (by first | exact .inl ⟨H1.out, H48.out⟩ | exact .inr HWW.out)]))) (by decide)))
                                | (go_roundw
                                   case rel =>
                                     have h := rlex_next HO0.out hown3 hg3 hbw (n := k - i) (by omega) (by omega) hLi HL (lex_at hlt HBF.out H35.out (HF.out.trans (HW.out.trans (by rw [if_neg H9.out, if_neg (not_bad (by first | exact .inl H1.out | exact .inr (by rw [H48.out]; simp)) (by rw [HWW.out]; simp))]))) (by omega))
                                     rw [show i + (k - i) = k by omega] at h
                                     exact h
                                   case measure => simp [intOf]; omega)
                      · have HDK := hid hdk
                        clear hdk
                        go_wp2_with (first | (go_at_call 14; refine (rDigit_b _ _ _ HDK.out).mono ?_; rintro e w4 ⟨rfl, hw4⟩; subst w4))
                        go_round
                        case rel => exact ⟨k + 1, by omega, by omega, by go_num, hid (span_more hkl HDK.out HK.out)⟩
                        case measure => simp [intOf]; omega
                    · have hke : k = s.size := by omega
                      have HK2 := span_end (by omega) HK.out
                      have hki : i < k := by have := HGE.out; omega
                      have HWW : Hid (headIs isW ((lst s).drop k) = false) := hid (headIs_end isW s k (by omega))
                      have HW : Hid (numberN ((lst s).drop i) = if 9 < k - i then (0, 0, 2) else if (1 < k - i ∧ (s[i].toNat == 48) = true) ∨ headIs isW ((lst s).drop k) = true then (0, 0, 3) else (2, k - i, 0)) := hid (by
                        unfold numberN
                        rw [headIs_drop (· == 48) s i hlt, List.drop_drop, show i + spanN isD ((lst s).drop i) = k by omega, show spanN isD ((lst s).drop i) = k - i by omega])
                      clear HK2 hke
                      by_cases h9 : 9 < k - i
                      · have h9i : (9 : Int) < (k : Int) - (i : Int) := by omega
                        have H9 := hid h9
                        clear h9
                        go_wp2_with (first | fail)
                        go_ret3
                        exact rlex_err (x := 2) hle hbw HL (by decide) (lex_at_err hlt HBF.out H35.out (HF.out.trans (HW.out.trans (by rw [if_pos H9.out]))) (by decide))
                      · have h9i : ¬ (9 : Int) < (k : Int) - (i : Int) := by omega
                        have H9 := hid h9
                        clear h9
                        have h48i : ((s[i].toNat : Int) == 48) = (s[i].toNat == 48) := by rw [Bool.eq_iff_iff]; simp; omega
                        cases h48 : (s[i].toNat == 48)
                        all_goals
                          rw [h48] at h48i
                          have H48 := hid h48
                          clear h48
                          by_cases h1 : 1 < k - i
                        all_goals
                          have h1i : ((1 : Int) < (k : Int) - (i : Int)) = (1 < k - i) := by rw [eq_iff_iff]; omega
                          have H1 := hid h1
                          simp only [h1, eq_iff_iff, iff_true, iff_false] at h1i
                          clear h1
                          have HN := hid (at3_new wr ⟨2, ((lst s).drop i).take (k - i), i⟩ (s.extract i k) (ext_str s i k))
                          have HO := hid (HO0.out.below ((Below.refl _ _).alloc (Nat.le_refl _) (.cells #[.int .i64 2, .string (s.extract i k), .int .i64 (i : Int)] 33)))
                          have HSZ : Hid (w.heap.size ≤ (wr.alloc (.cells #[.int .i64 2, .string (s.extract i k), .int .i64 (i : Int)] 33)).heap.size) := hid (by simp; omega)
                          go_wp2_with (first | fail | (at_builtin; go_must (refine wpList_append_tk rfl (.tmp 167) (.tmp 174) rfl w.heap.size _ L rfl HO.out wr.heap.size 1 ⟨2, ((lst s).drop i).take (k - i), i⟩ rfl HN.out HLK.out HSZ.out ?_); intro v3 w3 hown3 hg3))
                          first
                            | (go_ret3
                               exact rlex_err (x := 3) hle hbw HL (by decide) (lex_at_err hlt HBF.out H35.out (HF.out.trans (HW.out.trans (by rw [if_neg H9.out, if_pos (by first | exact .inl ⟨H1.out, H48.out⟩ | exact .inr HWW.out)]))) (by decide)))
                            | (go_roundw
                               case rel =>
                                 have h := rlex_next HO0.out hown3 hg3 hbw (n := k - i) (by omega) (by omega) hLi HL (lex_at hlt HBF.out H35.out (HF.out.trans (HW.out.trans (by rw [if_neg H9.out, if_neg (not_bad (by first | exact .inl H1.out | exact .inr (by rw [H48.out]; simp)) (by rw [HWW.out]; simp))]))) (by omega))
                                 rw [show i + (k - i) = k by omega] at h
                                 exact h
                               case measure => simp [intOf]; omega)
            · as_aux_lemma =>
                obtain ⟨nb, n35, hDt⟩ := isL_no hLt
                have HLT := hid hLt
                have HDT := hid hDt
                have HF := hid (first_word hlt hLt)
                have hge : 0 < spanN isW ((lst s).drop i) := by
                  rw [lst_drop s i hlt]
                  simp [spanN, isW, hLt]
                have HGE := hid hge
                have HSP : Hid (i + spanN isW ((lst s).drop i) ≤ s.size) := hid (by
                  have := spanN_le isW ((lst s).drop i)
                  rw [List.length_drop, lst_length] at this
                  omega)
                clear hLt hDt nb n35 hge hO
                go_wp2_with (go_at_call 13; refine (rLetter_b _ _ _ HLT.out).mono ?_; rintro e w4 ⟨rfl, hw4⟩; subst w4)
                go_loop [8] (fun kv => ∃ k : Nat, i ≤ k ∧ k ≤ s.size ∧ kv = .int .i64 (k : Int) ∧ Hid (spanN isW ((lst s).drop i) + i = k + spanN isW ((lst s).drop k))) (fun kv => s.size - (intOf kv).toNat)
                case atStart => exact ⟨i, Nat.le_refl _, hi, rfl, hid (by omega)⟩
                case round =>
                  obtain ⟨k, hik, hk, rfl, HK⟩ := hrel
                  by_cases hkl : k < s.size
                  · cases hlk : isL s[k].toNat <;> cases hdk : isD s[k].toNat <;> cases h95 : (s[k].toNat == 95)
                    all_goals
                      have hww : isW s[k].toNat = (isL s[k].toNat || isD s[k].toNat || s[k].toNat == 95) := rfl
                      rw [hlk, hdk, h95] at hww
                      simp only [Bool.or_false, Bool.or_true, Bool.false_or, Bool.true_or] at hww
                      have HWW := hid hww
                      have HLK2 := hid hlk
                      have HDK := hid hdk
                      have h95i : ((s[k].toNat : Int) == 95) = (s[k].toNat == 95) := by rw [Bool.eq_iff_iff]; simp; omega
                      rw [h95] at h95i
                      clear hlk hdk h95 hww
                    · have HK2 := span_stop hkl HWW.out HK.out
                      have hki : i < k := by have := HGE.out; omega
                      have HW : Hid (wordN ((lst s).drop i) = if isKey (((lst s).drop i).take (k - i)) = true then (3, k - i, 0) else if 16 < k - i then (0, 0, 2) else (1, k - i, 0)) := hid (by rw [show k - i = spanN isW ((lst s).drop i) by omega]; rfl)
                      clear HK2 HWW
                      cases hkey : isKey (((lst s).drop i).take (k - i))
                      · have HKY := hid hkey
                        clear hkey
                        by_cases h16 : 16 < k - i
                        · have h16i : (16 : Int) < (k : Int) - (i : Int) := by omega
                          have H16 := hid h16
                          clear h16
                          go_wp2_with (first | (go_at_call 13; refine (rLetter_b _ _ _ HLK2.out).mono ?_; rintro e w4 ⟨rfl, hw4⟩; subst w4) | (go_at_call 14; refine (rDigit_b _ _ _ HDK.out).mono ?_; rintro e w4 ⟨rfl, hw4⟩; subst w4) | (go_at_call 15; refine (rKey_b _ _ _ _ _ HKY.out).mono ?_; rintro e w4 ⟨rfl, hw4⟩; subst w4))
                          go_ret3
                          exact rlex_err (x := 2) hle hbw HL (by decide) (lex_at_err hlt HBF.out H35.out (HF.out.trans (HW.out.trans (by rw [HKY.out, if_neg (by simp), if_pos H16.out]))) (by decide))
                        · have h16i : ¬ (16 : Int) < (k : Int) - (i : Int) := by omega
                          have H16 := hid h16
                          clear h16
                          have HN := hid (at3_new wr ⟨1, ((lst s).drop i).take (k - i), i⟩ (s.extract i k) (ext_str s i k))
                          have HO := hid (HO0.out.below ((Below.refl _ _).alloc (Nat.le_refl _) (.cells #[.int .i64 1, .string (s.extract i k), .int .i64 (i : Int)] 33)))
                          have HSZ : Hid (w.heap.size ≤ (wr.alloc (.cells #[.int .i64 1, .string (s.extract i k), .int .i64 (i : Int)] 33)).heap.size) := hid (by simp; omega)
                          go_wp2_with (first | (go_at_call 13; refine (rLetter_b _ _ _ HLK2.out).mono ?_; rintro e w4 ⟨rfl, hw4⟩; subst w4) | (go_at_call 14; refine (rDigit_b _ _ _ HDK.out).mono ?_; rintro e w4 ⟨rfl, hw4⟩; subst w4) | (go_at_call 15; refine (rKey_b _ _ _ _ _ HKY.out).mono ?_; rintro e w4 ⟨rfl, hw4⟩; subst w4) | (at_builtin; go_must (refine wpList_append_tk rfl (.tmp 108) (.tmp 116) rfl w.heap.size _ L rfl HO.out wr.heap.size 1 ⟨1, ((lst s).drop i).take (k - i), i⟩ rfl HN.out HLK.out HSZ.out ?_); intro v3 w3 hown3 hg3))
                          go_roundw
                          case rel =>
                            have h := rlex_next HO0.out hown3 hg3 hbw (n := k - i) (by omega) (by omega) hLi HL (lex_at hlt HBF.out H35.out (HF.out.trans (HW.out.trans (by rw [HKY.out, if_neg (by simp), if_neg H16.out]))) (by omega))
                            rw [show i + (k - i) = k by omega] at h
                            exact h
                          case measure => simp [intOf]; omega
                      · have hk6 := key_len hkey
                        rw [List.length_take, List.length_drop, lst_length] at hk6
                        have h16i : ¬ (16 : Int) < (k : Int) - (i : Int) := by omega
                        have HKY := hid hkey
                        clear hkey hk6
                        have HN := hid (at3_new wr ⟨3, ((lst s).drop i).take (k - i), i⟩ (s.extract i k) (ext_str s i k))
                        have HO := hid (HO0.out.below ((Below.refl _ _).alloc (Nat.le_refl _) (.cells #[.int .i64 3, .string (s.extract i k), .int .i64 (i : Int)] 33)))
                        have HSZ : Hid (w.heap.size ≤ (wr.alloc (.cells #[.int .i64 3, .string (s.extract i k), .int .i64 (i : Int)] 33)).heap.size) := hid (by simp; omega)
                        go_wp2_with (first | (go_at_call 13; refine (rLetter_b _ _ _ HLK2.out).mono ?_; rintro e w4 ⟨rfl, hw4⟩; subst w4) | (go_at_call 14; refine (rDigit_b _ _ _ HDK.out).mono ?_; rintro e w4 ⟨rfl, hw4⟩; subst w4) | (go_at_call 15; refine (rKey_b _ _ _ _ _ HKY.out).mono ?_; rintro e w4 ⟨rfl, hw4⟩; subst w4) | (at_builtin; go_must (refine wpList_append_tk rfl (.tmp 108) (.tmp 116) rfl w.heap.size _ L rfl HO.out wr.heap.size 1 ⟨3, ((lst s).drop i).take (k - i), i⟩ rfl HN.out HLK.out HSZ.out ?_); intro v3 w3 hown3 hg3))
                        go_roundw
                        case rel =>
                          have h := rlex_next HO0.out hown3 hg3 hbw (n := k - i) (by omega) (by omega) hLi HL (lex_at hlt HBF.out H35.out (HF.out.trans (HW.out.trans (by rw [HKY.out, if_pos rfl]))) (by omega))
                          rw [show i + (k - i) = k by omega] at h
                          exact h
                        case measure => simp [intOf]; omega
                    all_goals
                      go_wp2_with (first | (go_at_call 13; refine (rLetter_b _ _ _ HLK2.out).mono ?_; rintro e w4 ⟨rfl, hw4⟩; subst w4) | (go_at_call 14; refine (rDigit_b _ _ _ HDK.out).mono ?_; rintro e w4 ⟨rfl, hw4⟩; subst w4))
                      go_round
                      case rel => exact ⟨k + 1, by omega, by omega, by go_num, hid (span_more hkl HWW.out HK.out)⟩
                      case measure => simp [intOf]; omega
                  · have hke : k = s.size := by omega
                    have HK2 := span_end (by omega) HK.out
                    have hki : i < k := by have := HGE.out; omega
                    have HW : Hid (wordN ((lst s).drop i) = if isKey (((lst s).drop i).take (k - i)) = true then (3, k - i, 0) else if 16 < k - i then (0, 0, 2) else (1, k - i, 0)) := hid (by rw [show k - i = spanN isW ((lst s).drop i) by omega]; rfl)
                    clear HK2 hke
                    cases hkey : isKey (((lst s).drop i).take (k - i))
                    · have HKY := hid hkey
                      clear hkey
                      by_cases h16 : 16 < k - i
                      · have h16i : (16 : Int) < (k : Int) - (i : Int) := by omega
                        have H16 := hid h16
                        clear h16
                        go_wp2_with (first | fail | (go_at_call 15; refine (rKey_b _ _ _ _ _ HKY.out).mono ?_; rintro e w4 ⟨rfl, hw4⟩; subst w4))
                        go_ret3
                        exact rlex_err (x := 2) hle hbw HL (by decide) (lex_at_err hlt HBF.out H35.out (HF.out.trans (HW.out.trans (by rw [HKY.out, if_neg (by simp), if_pos H16.out]))) (by decide))
                      · have h16i : ¬ (16 : Int) < (k : Int) - (i : Int) := by omega
                        have H16 := hid h16
                        clear h16
                        have HN := hid (at3_new wr ⟨1, ((lst s).drop i).take (k - i), i⟩ (s.extract i k) (ext_str s i k))
                        have HO := hid (HO0.out.below ((Below.refl _ _).alloc (Nat.le_refl _) (.cells #[.int .i64 1, .string (s.extract i k), .int .i64 (i : Int)] 33)))
                        have HSZ : Hid (w.heap.size ≤ (wr.alloc (.cells #[.int .i64 1, .string (s.extract i k), .int .i64 (i : Int)] 33)).heap.size) := hid (by simp; omega)
                        go_wp2_with (first | fail | (go_at_call 15; refine (rKey_b _ _ _ _ _ HKY.out).mono ?_; rintro e w4 ⟨rfl, hw4⟩; subst w4) | (at_builtin; go_must (refine wpList_append_tk rfl (.tmp 108) (.tmp 116) rfl w.heap.size _ L rfl HO.out wr.heap.size 1 ⟨1, ((lst s).drop i).take (k - i), i⟩ rfl HN.out HLK.out HSZ.out ?_); intro v3 w3 hown3 hg3))
                        go_roundw
                        case rel =>
                          have h := rlex_next HO0.out hown3 hg3 hbw (n := k - i) (by omega) (by omega) hLi HL (lex_at hlt HBF.out H35.out (HF.out.trans (HW.out.trans (by rw [HKY.out, if_neg (by simp), if_neg H16.out]))) (by omega))
                          rw [show i + (k - i) = k by omega] at h
                          exact h
                        case measure => simp [intOf]; omega
                    · have hk6 := key_len hkey
                      rw [List.length_take, List.length_drop, lst_length] at hk6
                      have h16i : ¬ (16 : Int) < (k : Int) - (i : Int) := by omega
                      have HKY := hid hkey
                      clear hkey hk6
                      have HN := hid (at3_new wr ⟨3, ((lst s).drop i).take (k - i), i⟩ (s.extract i k) (ext_str s i k))
                      have HO := hid (HO0.out.below ((Below.refl _ _).alloc (Nat.le_refl _) (.cells #[.int .i64 3, .string (s.extract i k), .int .i64 (i : Int)] 33)))
                      have HSZ : Hid (w.heap.size ≤ (wr.alloc (.cells #[.int .i64 3, .string (s.extract i k), .int .i64 (i : Int)] 33)).heap.size) := hid (by simp; omega)
                      go_wp2_with (first | fail | (go_at_call 15; refine (rKey_b _ _ _ _ _ HKY.out).mono ?_; rintro e w4 ⟨rfl, hw4⟩; subst w4) | (at_builtin; go_must (refine wpList_append_tk rfl (.tmp 108) (.tmp 116) rfl w.heap.size _ L rfl HO.out wr.heap.size 1 ⟨3, ((lst s).drop i).take (k - i), i⟩ rfl HN.out HLK.out HSZ.out ?_); intro v3 w3 hown3 hg3))
                      go_roundw
                      case rel =>
                        have h := rlex_next HO0.out hown3 hg3 hbw (n := k - i) (by omega) (by omega) hLi HL (lex_at hlt HBF.out H35.out (HF.out.trans (HW.out.trans (by rw [HKY.out, if_pos rfl]))) (by omega))
                        rw [show i + (k - i) = k by omega] at h
                        exact h
                      case measure => simp [intOf]; omega
      · have hie : i = s.size := by omega
        subst hie
        have HN := hid (at3_new wr ⟨0, [], s.size⟩ ⟨#[]⟩ rfl)
        have HO := hid (hO.below ((Below.refl _ _).alloc (Nat.le_refl _) (.cells #[.int .i64 0, .string ⟨#[]⟩, .int .i64 (s.size : Int)] 33)))
        have HOL : Hid (∀ g, u5.ownBlock = some g → w.heap.size ≤ g) := hid (fun g e => (World.ownsRow.lt hO g e).1)
        have HLK : Hid (L.length ≤ 1000000) := hid (by omega)
        have hsz := hbw.size
        have HSZ : Hid (w.heap.size ≤ (wr.alloc (.cells #[.int .i64 0, .string ⟨#[]⟩, .int .i64 (s.size : Int)] 33)).heap.size) := hid (by simp; omega)
        clear hO
        go_wp2_with (at_builtin; go_must (refine wpList_append_tk rfl (.tmp 177) (.tmp 181) rfl w.heap.size _ L rfl HO.out wr.heap.size 1 ⟨0, [], s.size⟩ rfl HN.out HLK.out HSZ.out ?_); intro v3 w3 hown3 hg3)
        go_ret3
        have hlx : lexS (lst s) = (L ++ [⟨0, [], s.size⟩], 0, 0) := by
          rw [HS.out, HL.out, drop_end s s.size (Nat.le_refl _), lex_nil]
          rfl
        rw [hlx]
        exact ⟨v3, rfl, hown3, (hbw.alloc hbw.size _).grown hg3 (by simp; omega) (fun g e => HOL.out g e)⟩

end Go.Proofs.Ythgghkcmhiomeaa
