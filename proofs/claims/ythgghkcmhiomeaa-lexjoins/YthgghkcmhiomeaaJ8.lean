/-
  Walks: the document's example; the law LexLimits.
-/
import Derived.Test.YthgghkcmhiomeaaJ7
namespace Go.Proofs.Ythgghkcmhiomeaa
open Go.RowKit Lx
set_option linter.unusedSimpArgs false
set_option linter.unusedVariables false
set_option maxRecDepth 100000

theorem num_any (w : World) (x : Int) : Calls Try.prog 11 #[.int .i64 x] w fun e w' => e = .returned (.int .i64 x) ∧ w' = w := by
  go_enter Try.func11, Try.ntmps11
  go_wp2
  go_ret
  exact ⟨rfl, rfl⟩

/-- Two rounds that lead on to one another. -/
theorem lex_one {c : Nat} {r : List Nat} {p k n : Nat} (h1 : isB c = false) (h2 : c ≠ 35) (ha : firstN (c :: r) = (k, n, 0)) (hn : n ≠ 0) : lexN false (c :: r) p = comb [⟨k, (c :: r).take n, p⟩] (lexN false ((c :: r).drop n) (p + n)) := by
  rw [lex_tok h1 h2 _ ha]; simp [hn]
theorem lex_err {c : Nat} {r : List Nat} {p k n x : Nat} (h1 : isB c = false) (h2 : c ≠ 35) (ha : firstN (c :: r) = (k, n, x)) (hx : x ≠ 0) : lexN false (c :: r) p = ([], x, p) := by
  rw [lex_tok h1 h2 _ ha]; simp [hx]

theorem awake_pure : lexS [120, 61, 49, 59] = ([⟨1, [120], 0⟩, ⟨4, [61], 1⟩, ⟨2, [49], 2⟩, ⟨4, [59], 3⟩, ⟨0, [], 4⟩], 0, 0) := by
  unfold lexS
  rw [if_neg (by decide)]
  rw [lex_one (k := 1) (n := 1) (by decide) (by decide) (by decide) (by decide)]
  show comb _ (lexN false (61 :: [49, 59]) 1) = _
  rw [lex_one (k := 4) (n := 1) (by decide) (by decide) (by decide) (by decide)]
  show comb _ (comb _ (lexN false (49 :: [59]) 2)) = _
  rw [lex_one (k := 2) (n := 1) (by decide) (by decide) (by decide) (by decide)]
  show comb _ (comb _ (comb _ (lexN false (59 :: []) 3))) = _
  rw [lex_one (k := 4) (n := 1) (by decide) (by decide) (by decide) (by decide)]
  show comb _ (comb _ (comb _ (comb _ (lexN false [] 4)))) = _
  rw [lex_nil]
  rfl

set_option maxHeartbeats 1600000 in
theorem awake_any (w : World) : Calls Try.prog 7 #[] w fun e w' => e = .returned (.bool true) ∧ Below w.heap.size w w' := by
  have hC : ∀ W, Calls Try.prog 8 #[.string ⟨#[120, 61, 49, 59]⟩] W (LexOut W ([⟨1, [120], 0⟩, ⟨4, [61], 1⟩, ⟨2, [49], 2⟩, ⟨4, [59], 3⟩, ⟨0, [], 4⟩], 0, 0)) := fun W => by
    have h := lex_any W ⟨#[120, 61, 49, 59]⟩ (by decide)
    have e : lst ⟨#[120, 61, 49, 59]⟩ = [120, 61, 49, 59] := by (unfold lst; rw [ByteArray.toList_mk]; rfl)
    rw [e, awake_pure] at h
    exact h
  have HC := hid hC
  clear hC
  go_enter Try.func7, Try.ntmps7
  go_wp2_with fail
  refine (HC.out _).mono ?_
  rintro e w1 ⟨v, rfl, hO, hb⟩
  obtain ⟨ao, cap, rfl, h1, h2, hcs⟩ := hO.shape
  have hcs2 : ∃ g, ao = some ⟨g, 0, none⟩ ∧ w.heap.size ≤ g ∧ g < w1.heap.size ∧ ∀ j (hj : j < 5), At3 w1 g (j * 3) ([⟨1, [120], 0⟩, ⟨4, [61], 1⟩, ⟨2, [49], 2⟩, ⟨4, [59], 3⟩, ⟨0, [], 4⟩] : List Tk)[j] := by
    rcases hcs with h | h
    · simp at h
    · exact h
  obtain ⟨g, rfl, hg1, hg2, hat⟩ := hcs2
  have q0 := (hat 0 (by decide)).1
  have q1 := (hat 1 (by decide)).2.1
  have q2 := (hat 2 (by decide)).1
  have q4 := (hat 4 (by decide)).2.2
  have h5 : 5 ≤ cap := h1
  clear hat hcs h1 hO
  unfold maxLen at h2
  simp only [List.getElem_cons_zero, List.getElem_cons_succ, Nat.reduceMul, Nat.reduceAdd] at q0 q1 q2 q4
  have hs : str [61] = ⟨#[61]⟩ := rfl
  rw [hs] at q1
  go_wp2_with (go_at_call 11; refine (num_any _ _).mono ?_; rintro e w2 ⟨rfl, rfl⟩)
  go_ret
  exact ⟨rfl, hb⟩

/-- A name, a number at its limit. -/
def nmL (c : Nat) (k : Nat) : List Nat := (97 + c % 26) :: List.replicate k 122
def dgL (d : Nat) (k : Nat) : List Nat := (49 + d % 9) :: List.replicate k 48

theorem lim_words : ∀ c < 26, ∀ d < 9, firstN (nmL c 15 ++ 32 :: dgL d 8) = (1, 16, 0) := by decide +kernel
theorem lim_digs : ∀ d < 9, firstN (dgL d 8) = (2, 9, 0) := by decide +kernel
theorem lim_long : ∀ c < 26, firstN (nmL c 16) = (0, 0, 2) := by decide +kernel
theorem lim_many : ∀ d < 9, firstN (dgL d 9) = (0, 0, 2) := by decide +kernel
theorem lim_nought : ∀ d < 9, firstN (48 :: dgL d 8) = (0, 0, 2) := by decide +kernel
theorem lim_letter : ∀ c < 26, firstN (55 :: nmL c 15) = (0, 0, 3) := by decide +kernel
theorem nm_mod (c k : Nat) : nmL c k = nmL (c % 26) k := by unfold nmL; rw [Nat.mod_mod]
theorem dg_mod (d k : Nat) : dgL d k = dgL (d % 9) k := by unfold dgL; rw [Nat.mod_mod]
theorem nm_len (c k : Nat) : (nmL c k).length = k + 1 := by simp [nmL]
theorem dg_len (d k : Nat) : (dgL d k).length = k + 1 := by simp [dgL]
theorem nm_b (c : Nat) : isB (97 + c % 26) = false ∧ 97 + c % 26 ≠ 35 := by simp [isB]; omega
theorem dg_b (d : Nat) : isB (49 + d % 9) = false ∧ 49 + d % 9 ≠ 35 := by simp [isB]; omega

theorem lim_a (c d : Nat) : (lexS (nmL c 15 ++ 32 :: dgL d 8)).1.length = 3 ∧ (lexS (nmL c 15 ++ 32 :: dgL d 8)).2.1 = 0 := by
  have h1 := lim_words (c % 26) (Nat.mod_lt _ (by decide)) (d % 9) (Nat.mod_lt _ (by decide))
  have h2 := lim_digs (d % 9) (Nat.mod_lt _ (by decide))
  rw [← nm_mod, ← dg_mod] at h1
  rw [← dg_mod] at h2
  unfold lexS
  rw [if_neg (by simp [nm_len, dg_len])]
  unfold nmL at h1 ⊢
  rw [List.cons_append] at h1 ⊢
  rw [lex_one (nm_b c).1 (nm_b c).2 h1 (by decide)]
  have e1 : List.drop 16 ((97 + c % 26) :: (List.replicate 15 122 ++ 32 :: dgL d 8)) = 32 :: dgL d 8 := rfl
  rw [e1, lex_blank rfl]
  unfold dgL at h2 ⊢
  rw [lex_one (dg_b d).1 (dg_b d).2 h2 (by decide)]
  have e2 : List.drop 9 ((49 + d % 9) :: List.replicate 8 48) = [] := rfl
  rw [e2, lex_nil]
  simp [comb]
theorem lim_b (c : Nat) : lexS (nmL c 16) = ([], 2, 0) := by
  have h1 := lim_long (c % 26) (Nat.mod_lt _ (by decide))
  rw [← nm_mod] at h1
  unfold lexS
  rw [if_neg (by simp [nm_len])]
  unfold nmL at h1 ⊢
  rw [lex_err (nm_b c).1 (nm_b c).2 h1 (by decide)]
theorem lim_c (d : Nat) : lexS (dgL d 9) = ([], 2, 0) := by
  have h1 := lim_many (d % 9) (Nat.mod_lt _ (by decide))
  rw [← dg_mod] at h1
  unfold lexS
  rw [if_neg (by simp [dg_len])]
  unfold dgL at h1 ⊢
  rw [lex_err (dg_b d).1 (dg_b d).2 h1 (by decide)]
theorem lex_semi (r : List Nat) (p : Nat) : lexN false (59 :: 32 :: r) p = comb [⟨4, [59], p⟩] (lexN false r (p + 2)) := by
  rw [lex_one (k := 4) (n := 1) rfl (by decide) rfl (by decide)]
  show comb _ (lexN false (32 :: r) (p + 1)) = _
  rw [lex_blank rfl]
  rfl
theorem lim_d (d : Nat) : lexS ([59, 32, 48] ++ dgL d 8) = ([], 2, 2) := by
  have h1 := lim_nought (d % 9) (Nat.mod_lt _ (by decide))
  rw [← dg_mod] at h1
  unfold lexS
  rw [if_neg (by simp [dg_len])]
  show lexN false (59 :: 32 :: 48 :: dgL d 8) 0 = _
  rw [lex_semi, lex_err rfl (by decide) h1 (by decide)]
  rfl
theorem lim_e (c : Nat) : lexS ([59, 32, 55] ++ nmL c 15) = ([], 3, 2) := by
  have h1 := lim_letter (c % 26) (Nat.mod_lt _ (by decide))
  rw [← nm_mod] at h1
  unfold lexS
  rw [if_neg (by simp [nm_len])]
  show lexN false (59 :: 32 :: 55 :: nmL c 15) 0 = _
  rw [lex_semi, lex_err rfl (by decide) h1 (by decide)]
  rfl
theorem lim_f (l : List Nat) (h : l.length = 8193) : lexS l = ([], 2, 8192) := by
  unfold lexS
  rw [if_pos (by omega)]

end Go.Proofs.Ythgghkcmhiomeaa
