/-
  Plain mathematics: sums and differences from the left.
-/
import Derived.Test.YtjofhaakkleecaaDoorQM
namespace Go.Proofs.YtjofhaakkleecaaDoor
open Go.RowKit Lx
set_option linter.unusedVariables false
set_option maxRecDepth 100000
set_option linter.unusedSimpArgs false

def dgN (n : Nat) : List Nat := if n < 10 then [48 + n] else if n < 100 then [48 + n / 10, 48 + n % 10] else [48 + n / 100, 48 + n / 10 % 10, 48 + n % 10]
theorem dgN_step {n : Nat} (h1 : ¬ n < 10) (h2 : n < 1000) : dgN n = dgN (n / 10) ++ [48 + n % 10] := by
  unfold dgN
  rw [if_neg h1]
  by_cases h : n < 100
  · rw [if_pos h, if_pos (by omega)]; rfl
  · rw [if_neg h, if_neg (by omega), if_pos (by omega), Nat.div_div_eq_div_mul]; rfl
theorem dg_facts : ∀ n, n < 256 → numV (dgN n) = n ∧ firstN (dgN n) = (2, (dgN n).length, 0) ∧ dgN n ≠ [] ∧ dgN n ≠ [45] ∧ dgN n ≠ [40] ∧ (dgN n).length ≤ 3 := by decide +kernel
theorem dg_small {n : Nat} (h : n < 256) : ∀ x ∈ dgN n, x < 256 := by
  intro x hx
  unfold dgN at hx
  split at hx
  · simp at hx; omega
  · split at hx <;> simp at hx <;> omega
def opW (k : Nat) : List Nat := if k = 0 then [43] else [45]
def flatW : List (List Nat) → List Nat
  | [] => []
  | w :: r => 32 :: (w ++ flatW r)
theorem flatW_app : ∀ (a b : List (List Nat)), flatW (a ++ b) = flatW a ++ flatW b
  | [], b => rfl
  | w :: r, b => by simp [flatW, flatW_app r b]
def tailW : List (Nat × Nat) → List (List Nat)
  | [] => []
  | p :: r => opW p.1 :: dgN p.2 :: tailW r
def kd (w : List Nat) : Nat := (firstN w).1
def GoodW (w : List Nat) : Prop := firstN w = (kd w, w.length, 0) ∧ w ≠ []
theorem lexW : ∀ (ws : List (List Nat)) (w : List Nat) (p : Nat), GoodW w → (∀ v ∈ ws, GoodW v) → ∃ M, lexN false (w ++ flatW ws) p = (M, 0, 0) ∧ M.map (fun t => (t.k, t.t)) = (w :: ws).map (fun v => (kd v, v)) ++ [(0, [])] := by
  intro ws
  induction ws with
  | nil =>
    intro w p hw _
    have hg : gapN false w = 0 := by
      cases hq : w with
      | nil => exact absurd hq hw.2
      | cons c r =>
        have h1 := hw.1
        rw [hq] at h1
        obtain ⟨g1, g2⟩ := first_nogap h1
        unfold gapN
        rw [if_neg (by simp), g1, if_neg (by simp), if_neg g2]
    refine ⟨[⟨kd w, w, p⟩, ⟨0, [], p + w.length⟩], ?_, rfl⟩
    show lexN false (w ++ []) p = _
    rw [List.append_nil, lex_unfold false w p (kd w, w.length, 0) (by rw [hg]; exact hw.1), hg]
    simp only [ne_eq, not_true_eq_false, if_false, List.drop_zero]
    rw [if_neg (by rw [List.length_eq_zero_iff]; exact hw.2), List.take_length, List.drop_length, lex_unfold false [] _ _ rfl]
    simp [firstN_nil, gapN, comb]
  | cons v r ih =>
    intro w p hw hws
    obtain ⟨M, hM, hm⟩ := ih v (p + w.length + 1) (hws v (List.mem_cons_self ..)) (fun x hx => hws x (List.mem_cons_of_mem _ hx))
    have hg : gapN false (w ++ flatW (v :: r)) = 0 := by
      cases hq : w with
      | nil => exact absurd hq hw.2
      | cons c y =>
        have h1 := hw.1
        rw [hq] at h1
        obtain ⟨g1, g2⟩ := first_nogap h1
        rw [List.cons_append]
        unfold gapN
        rw [if_neg (by simp), g1, if_neg (by simp), if_neg g2]
    have hf : firstN ((w ++ flatW (v :: r)).drop (gapN false (w ++ flatW (v :: r)))) = (kd w, w.length, 0) := by
      rw [hg, List.drop_zero]
      show firstN (w ++ 32 :: (v ++ flatW r)) = _
      rw [first_blank hw.2]
      exact hw.1
    refine ⟨⟨kd w, w, p⟩ :: M, ?_, by rw [List.map_cons, hm]; rfl⟩
    rw [lex_unfold false _ p _ hf, hg]
    simp only [ne_eq, not_true_eq_false, if_false, List.drop_zero]
    rw [if_neg (by rw [List.length_eq_zero_iff]; exact hw.2), List.drop_left, List.take_left, Nat.add_zero]
    show comb _ (lexN false (32 :: (v ++ flatW r)) (p + w.length)) = _
    rw [lex_blank rfl, hM]
    rfl

def treeN : List Nd → List (Nat × Nat) → List Nd
  | ns, [] => ns
  | ns, p :: r => treeN ((ns ++ [⟨1, p.2, [], -1, -1⟩]) ++ [⟨4 + p.1, 0, [], lastI ns, lastI (ns ++ [⟨1, p.2, [], -1, -1⟩])⟩]) r
section
variable {tk : Tks}
theorem prod_num {F n d i v : Nat} {ns : List Nd} (hk : (tk i).k = 2) (ht : (tk i).t = dgN v) (hv : v < 256) (ho : (opr (tk (i + 1)).t).2 ≠ 5) : chainR tk (F + 1) 5 (unR tk (F + 1) (n + 1) d) i ns = .ok (ns ++ [⟨1, v, [], -1, -1⟩]) (i + 1) := by
  obtain ⟨f1, f2, f3, f4, f5, -⟩ := dg_facts v hv
  unfold chainR unR
  rw [if_neg (by rw [ht]; exact f4), if_neg (by rw [ht]; exact f5), if_pos hk, ht, f1]
  show moreR tk 5 _ (F + 1) (i + 1) _ = _
  unfold moreR joinsR
  rw [if_pos ho]
  rfl
theorem sum_tail {F n d : Nat} : ∀ (ps : List (Nat × Nat)) (m i : Nat) (ns : List Nd), ps.length ≤ m → (∀ j p, ps[j]? = some p → (tk (i + 2 * j)).t = opW p.1 ∧ p.1 < 2 ∧ (tk (i + 2 * j + 1)).k = 2 ∧ (tk (i + 2 * j + 1)).t = dgN p.2 ∧ p.2 < 256) → (tk (i + 2 * ps.length)).t = [59] →
    moreR tk 4 (chainR tk (F + 1) 5 (unR tk (F + 1) (n + 1) d)) m i ns = .ok (treeN ns ps) (i + 2 * ps.length)
  | [], m, i, ns, hm, h, he => by
    simp only [List.length_nil, Nat.mul_zero, Nat.add_zero] at he
    cases m with
    | zero => rfl
    | succ m =>
      unfold moreR joinsR
      rw [if_pos (by rw [he]; decide)]
      rfl
  | p :: r, 0, i, ns, hm, h, he => by simp at hm
  | p :: r, m + 1, i, ns, hm, h, he => by
    obtain ⟨h1, h2, h3, h4, h5⟩ := h 0 p rfl
    simp only [Nat.mul_zero, Nat.add_zero] at h1 h3 h4
    have hop : (opr (opW p.1)).2 = 4 ∧ (opr (opW p.1)).1 = 4 + p.1 := by
      have : p.1 = 0 ∨ p.1 = 1 := by omega
      rcases this with h | h <;> rw [h] <;> decide
    have hnext : (opr (tk (i + 1 + 1)).t).2 ≠ 5 := by
      cases r with
      | nil =>
        have he2 : (tk (i + 2)).t = [59] := he
        rw [show i + 1 + 1 = i + 2 by omega, he2]; decide
      | cons q r2 =>
        obtain ⟨g1, g2, -⟩ := h 1 q rfl
        have g1 : (tk (i + 2)).t = opW q.1 := g1
        rw [show i + 1 + 1 = i + 2 by omega, g1]
        have : q.1 = 0 ∨ q.1 = 1 := by omega
        rcases this with h | h <;> rw [h] <;> decide
    have hp : chainR tk (F + 1) 5 (unR tk (F + 1) (n + 1) d) (i + 1) ns = .ok (ns ++ [⟨1, p.2, [], -1, -1⟩]) (i + 1 + 1) := prod_num h3 h4 h5 hnext
    have ih := sum_tail (F := F) (n := n) (d := d) r m (i + 2) ((ns ++ [⟨1, p.2, [], -1, -1⟩]) ++ [⟨4 + p.1, 0, [], lastI ns, lastI (ns ++ [⟨1, p.2, [], -1, -1⟩])⟩]) (by simpa using hm) (fun j q hq => by
      have := h (j + 1) q (by simpa using hq)
      rw [show i + 2 * (j + 1) = i + 2 + 2 * j by omega] at this
      exact this) (by rw [← he]; simp only [List.length_cons]; congr 2; omega)
    unfold moreR joinsR
    rw [if_neg (by rw [h1, hop.1]; simp), hp]
    simp only [R.bind, if_true]
    rw [h1, hop.2, show i + 1 + 1 = i + 2 by omega, ih]
    show R.ok _ _ = R.ok _ _
    congr 1
    simp only [List.length_cons]
    omega
theorem left_prog {F n : Nat} {ps : List (Nat × Nat)} (hl : ps.length ≤ F + 1) (hn : n < 256)
    (t0 : (tk 0).t = [112, 114, 111, 99]) (k1 : (tk 1).k = 1) (t1 : (tk 1).t = [109]) (t2 : (tk 2).t = [40]) (t3 : (tk 3).t = [41]) (t4 : (tk 4).t = [123]) (k5 : (tk 5).k = 1) (t5 : (tk 5).t = [120]) (t6 : (tk 6).t = [61]) (k7 : (tk 7).k = 2) (t7 : (tk 7).t = dgN n)
    (h : ∀ j p, ps[j]? = some p → (tk (8 + 2 * j)).t = opW p.1 ∧ p.1 < 2 ∧ (tk (8 + 2 * j + 1)).k = 2 ∧ (tk (8 + 2 * j + 1)).t = dgN p.2 ∧ p.2 < 256)
    (e1 : (tk (8 + 2 * ps.length)).t = [59]) (e2 : (tk (8 + 2 * ps.length + 1)).t = [125]) (e3 : (tk (8 + 2 * ps.length + 1 + 1)).k = 0) :
    progR tk (F + 1 + 1) = .ok [⟨[109], [], [], [], [.mk 1 [120] [] (treeN [⟨1, n, [], -1, -1⟩] ps) [] [] []]⟩] (8 + 2 * ps.length + 1 + 1) := by
  have hnext : (opr (tk (7 + 1)).t).2 ≠ 5 := by
    cases hps : ps with
    | nil => rw [hps] at e1; have e1 : (tk 8).t = [59] := e1; rw [show 7 + 1 = 8 from rfl, e1]; decide
    | cons q r2 =>
      rw [hps] at h
      obtain ⟨g1, g2, -⟩ := h 0 q rfl
      have g1 : (tk 8).t = opW q.1 := g1
      rw [show 7 + 1 = 8 from rfl, g1]
      have : q.1 = 0 ∨ q.1 = 1 := by omega
      rcases this with h | h <;> rw [h] <;> decide
  have hx : exprR tk (F + 1 + 1) 0 7 = .ok (treeN [⟨1, n, [], -1, -1⟩] ps) (8 + 2 * ps.length) := by
    show (chainR tk (F + 1 + 1) 5 (unR tk (F + 1 + 1) (F + 1 + 1) 0) 7 []).bind (fun ns' j => moreR tk 4 (chainR tk (F + 1 + 1) 5 (unR tk (F + 1 + 1) (F + 1 + 1) 0)) (F + 1 + 1) j ns') = _
    rw [prod_num k7 t7 hn hnext]
    exact sum_tail ps (F + 1 + 1) 8 _ (by omega) h e1
  have hst : stR tk (F + 1 + 1) (F + 1 + 1) 0 5 = .ok (.mk 1 [120] [] (treeN [⟨1, n, [], -1, -1⟩] ps) [] [] []) (8 + 2 * ps.length + 1) := by
    unfold stR plainR
    rw [if_neg (by rw [t5]; decide), if_neg (by rw [t5]; decide), if_neg (by rw [t5]; decide), if_neg (by rw [t5]; decide), if_neg (by rw [t5]; decide), if_neg (by rw [t5]; decide), if_neg (by rw [t5]; decide)]
    have c1 : callsB tk 5 = false := by unfold callsB; rw [decide_eq_false (p := (tk (5 + 1)).t = [40]) (by rw [show 5 + 1 = 6 from rfl, t6]; decide), Bool.and_false]
    have c2 : callsB tk (6 + 1) = false := by unfold callsB; rw [decide_eq_false (by rw [show 6 + 1 = 7 from rfl, k7]; decide), Bool.false_and]
    rw [c1, if_neg (by simp)]
    unfold nameR
    rw [if_pos k5, t5]
    simp only [R.bind]
    rw [if_pos (show (tk (5 + 1)).t = [61] from t6), show (5 + 1 : Nat) = 6 from rfl, c2, if_neg (by simp), show (6 + 1 : Nat) = 7 from rfl, hx]
    simp only [takeR]
    rw [if_pos e1]
  have hb : stmtsM tk (stR tk (F + 1 + 1) (F + 1 + 1) 0) (F + 1 + 1) [] 5 = .ok [.mk 1 [120] [] (treeN [⟨1, n, [], -1, -1⟩] ps) [] [] []] (8 + 2 * ps.length + 1 + 1) := by
    unfold stmtsM
    rw [if_neg (by rw [t5]; decide), hst]
    simp only [R.bind]
    unfold stmtsM
    rw [if_pos e2]
    rfl
  have hv : varsM tk (F + 1 + 1) [] 5 = .ok [] 5 := by
    unfold varsM
    rw [if_neg (by rw [t5]; decide)]
  have hp : procR tk (F + 1 + 1) 0 = .ok ⟨[109], [], [], [], [.mk 1 [120] [] (treeN [⟨1, n, [], -1, -1⟩] ps) [] [] []]⟩ (8 + 2 * ps.length + 1 + 1) := by
    unfold procR takeR nameR listR resR
    rw [if_pos t0]
    simp only [R.bind]
    rw [show (0 + 1 : Nat) = 1 from rfl, if_pos k1]
    simp only [R.bind]
    rw [show (1 + 1 : Nat) = 2 from rfl, if_pos t2, show (2 + 1 : Nat) = 3 from rfl, if_pos t3]
    simp only [R.bind]
    rw [show (2 + 2 : Nat) = 4 from rfl, if_neg (by rw [t4]; decide)]
    simp only [R.bind]
    rw [if_pos t4]
    simp only [R.bind]
    rw [show (4 + 1 : Nat) = 5 from rfl, hv]
    simp only [R.bind]
    rw [hb, t1]
  unfold progR
  rw [hp]
  simp only [R.bind]
  unfold procsM
  rw [if_pos e3]
end
/-- The text of a sum. -/
def sumT (n : Nat) (ps : List (Nat × Nat)) : List Nat := dgN n ++ flatW (tailW ps)
def leftT (n : Nat) (ps : List (Nat × Nat)) : List Nat := [112, 114, 111, 99, 32, 109, 32, 40, 32, 41, 32, 123, 32, 120, 32, 61, 32] ++ sumT n ps ++ [32, 59, 32, 125]
def restW (n : Nat) (ps : List (Nat × Nat)) : List (List Nat) := [[109], [40], [41], [123], [120], [61], dgN n] ++ (tailW ps ++ [[59], [125]])
theorem leftT_words (n : Nat) (ps : List (Nat × Nat)) : leftT n ps = [112, 114, 111, 99] ++ flatW (restW n ps) := by
  unfold leftT sumT restW
  rw [flatW_app, flatW_app]
  simp [flatW]
theorem goodW_op {k : Nat} (h : k < 2) : GoodW (opW k) := by
  have : k = 0 ∨ k = 1 := by omega
  rcases this with rfl | rfl <;> exact ⟨by decide, by decide⟩
theorem goodW_dg {n : Nat} (h : n < 256) : GoodW (dgN n) := by
  obtain ⟨-, h2, h3, -⟩ := dg_facts n h
  exact ⟨by unfold kd; rw [h2], h3⟩
theorem kd_dg {n : Nat} (h : n < 256) : kd (dgN n) = 2 := by unfold kd; rw [(dg_facts n h).2.1]
theorem tail_good {ps : List (Nat × Nat)} (h : ∀ p ∈ ps, p.1 < 2 ∧ p.2 < 256) : ∀ v ∈ tailW ps, GoodW v := by
  induction ps with
  | nil => intro v hv; simp [tailW] at hv
  | cons p r ih =>
    intro v hv
    obtain ⟨h1, h2⟩ := h p (List.mem_cons_self ..)
    simp only [tailW, List.mem_cons] at hv
    rcases hv with rfl | rfl | hv
    · exact goodW_op h1
    · exact goodW_dg h2
    · exact ih (fun p hp => h p (List.mem_cons_of_mem _ hp)) v hv
theorem tail_len : ∀ ps : List (Nat × Nat), (tailW ps).length = 2 * ps.length
  | [] => rfl
  | p :: r => by simp only [tailW, List.length_cons, tail_len r]; omega
theorem tail_get : ∀ (ps : List (Nat × Nat)) (j : Nat) (p : Nat × Nat), ps[j]? = some p → (tailW ps)[2 * j]? = some (opW p.1) ∧ (tailW ps)[2 * j + 1]? = some (dgN p.2)
  | [], j, p, h => by simp at h
  | q :: r, 0, p, h => by
    simp only [List.getElem?_cons_zero, Option.some.injEq] at h
    subst h
    exact ⟨rfl, rfl⟩
  | q :: r, j + 1, p, h => by
    have := tail_get r j p (by simpa using h)
    rw [show 2 * (j + 1) = 2 * j + 1 + 1 by omega]
    simpa [tailW] using this
theorem sumT_len {n : Nat} {ps : List (Nat × Nat)} (hn : n < 256) (h : ∀ p ∈ ps, p.1 < 2 ∧ p.2 < 256) : (sumT n ps).length ≤ 3 + 6 * ps.length := by
  have h1 := (dg_facts n hn).2.2.2.2.2
  have key : ∀ {ps : List (Nat × Nat)}, (∀ p ∈ ps, p.1 < 2 ∧ p.2 < 256) → (flatW (tailW ps)).length ≤ 6 * ps.length := by
    intro ps
    induction ps with
    | nil => intro _; simp [tailW, flatW]
    | cons p r ih =>
      intro h
      have h2 := (dg_facts p.2 (h p (List.mem_cons_self ..)).2).2.2.2.2.2
      have h3 := ih (fun p hp => h p (List.mem_cons_of_mem _ hp))
      have h4 : (opW p.1).length = 1 := by unfold opW; split <;> rfl
      simp only [tailW, flatW, List.length_cons, List.length_append]
      omega
  have := key h
  unfold sumT
  rw [List.length_append]
  omega
theorem tks_of {M : List Tk} {K : List (Nat × List Nat)} (h : M.map (fun t => (t.k, t.t)) = K) {j : Nat} {p : Nat × List Nat} (hj : K[j]? = some p) : (tks M j).k = p.1 ∧ (tks M j).t = p.2 := by
  rw [← h, List.getElem?_map] at hj
  obtain ⟨t, ht, rfl⟩ := Option.map_eq_some_iff.1 hj
  unfold tks
  rw [List.getD_eq_getElem?_getD, ht]
  exact ⟨rfl, rfl⟩
/-- The program of a sum's text. -/
theorem left_math {n : Nat} {ps : List (Nat × Nat)} (hn : n < 256) (h : ∀ p ∈ ps, p.1 < 2 ∧ p.2 < 256) (hl : ps.length ≤ 100) :
    progS (leftT n ps) = ([⟨[109], [], [], [], [.mk 1 [120] [] (treeN [⟨1, n, [], -1, -1⟩] ps) [] [] []]⟩], 0, 0) := by
  have hlen := sumT_len hn h
  obtain ⟨M, hM, hm⟩ := lexW (restW n ps) [112, 114, 111, 99] 0 ⟨by decide, by decide⟩ (by
    intro v hv
    unfold restW at hv
    simp only [List.mem_append, List.mem_cons, List.not_mem_nil, or_false] at hv
    rcases hv with (rfl | rfl | rfl | rfl | rfl | rfl | rfl) | hv | rfl | rfl
    all_goals first | exact goodW_dg hn | exact ⟨by decide, by decide⟩ | exact tail_good h v hv)
  rw [← leftT_words] at hM
  have hlx : lexS (leftT n ps) = (M, 0, 0) := by
    unfold lexS
    rw [if_neg]
    · exact hM
    · unfold leftT
      simp only [List.length_append, List.length_cons, List.length_nil]
      omega
  have hK : ([112, 114, 111, 99] :: restW n ps).map (fun v => (kd v, v)) ++ [(0, [])] = [(kd [112, 114, 111, 99], [112, 114, 111, 99]), (kd [109], [109]), (kd [40], [40]), (kd [41], [41]), (kd [123], [123]), (kd [120], [120]), (kd [61], [61]), (kd (dgN n), dgN n)] ++ ((tailW ps).map (fun v => (kd v, v)) ++ [(kd [59], [59]), (kd [125], [125]), (0, [])]) := by
    unfold restW
    simp
  rw [hK] at hm
  have low := fun {j : Nat} {p : Nat × List Nat} (hj : ([(kd [112, 114, 111, 99], [112, 114, 111, 99]), (kd [109], [109]), (kd [40], [40]), (kd [41], [41]), (kd [123], [123]), (kd [120], [120]), (kd [61], [61]), (kd (dgN n), dgN n)] ++ ((tailW ps).map (fun v => (kd v, v)) ++ [(kd [59], [59]), (kd [125], [125]), (0, [])]))[j]? = some p) => tks_of hm hj
  have mid : ∀ {j : Nat} {v : List Nat}, (tailW ps)[j]? = some v → (tks M (8 + j)).k = kd v ∧ (tks M (8 + j)).t = v := by
    intro j v hv
    refine low (j := 8 + j) (p := (kd v, v)) ?_
    have hj := (List.getElem?_eq_some_iff.1 hv).1
    rw [List.getElem?_append_right (by simp), List.getElem?_append_left (by simp; omega), List.getElem?_map]
    simp [hv]
  have fin : ∀ {j : Nat} {p : Nat × List Nat}, [(kd [59], [59]), (kd [125], [125]), (0, [])][j]? = some p → (tks M (8 + 2 * ps.length + j)).k = p.1 ∧ (tks M (8 + 2 * ps.length + j)).t = p.2 := by
    intro j p hp
    refine low (j := 8 + 2 * ps.length + j) ?_
    rw [List.getElem?_append_right (by simp; omega), List.getElem?_append_right (by simp [tail_len]; omega)]
    have e : 8 + 2 * ps.length + j - [(kd [112, 114, 111, 99], [112, 114, 111, 99]), (kd [109], [109]), (kd [40], [40]), (kd [41], [41]), (kd [123], [123]), (kd [120], [120]), (kd [61], [61]), (kd (dgN n), dgN n)].length - ((tailW ps).map (fun v => (kd v, v))).length = j := by simp [tail_len]; omega
    rw [e]
    exact hp
  have hr := left_prog (tk := tks M) (F := 8198) (n := n) (ps := ps) (by omega) hn (low (j := 0) rfl).2 ((low (j := 1) rfl).1.trans (by decide)) (low (j := 1) rfl).2 (low (j := 2) rfl).2 (low (j := 3) rfl).2 (low (j := 4) rfl).2 ((low (j := 5) rfl).1.trans (by decide)) (low (j := 5) rfl).2 (low (j := 6) rfl).2 ((low (j := 7) rfl).1.trans (kd_dg hn)) (low (j := 7) rfl).2
    (fun j p hj => by
      obtain ⟨q1, q2⟩ := tail_get ps j p hj
      obtain ⟨p1, p2⟩ := h p (List.mem_of_getElem? hj)
      exact ⟨(mid q1).2, p1, by rw [Nat.add_assoc, (mid q2).1, kd_dg p2], by rw [Nat.add_assoc]; exact (mid q2).2, p2⟩)
    (fin (j := 0) rfl).2 (fin (j := 1) rfl).2 (fin (j := 2) rfl).1
  unfold progS
  rw [hlx]
  simp only [ne_eq, not_true_eq_false, if_false]
  rw [show (8200 : Nat) = 8198 + 1 + 1 from rfl, hr]
end Go.Proofs.YtjofhaakkleecaaDoor
