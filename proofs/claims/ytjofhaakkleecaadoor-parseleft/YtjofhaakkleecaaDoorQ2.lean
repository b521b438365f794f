/-
  Walks: the reader's small calls.
-/
import Derived.Test.YtjofhaakkleecaaDoorQ1
namespace Go.Proofs.YtjofhaakkleecaaDoor
open Go.RowKit Lx
set_option linter.unusedSimpArgs false
set_option linter.unusedVariables false
set_option maxRecDepth 100000

section
variable {w : World} {gR gt cap i d : Nat} {T : List Tk}
theorem pnext_any (h : RS w gR gt cap T i d) (hi : i < T.length) : Calls Tryd.prog 19 #[.pointer (some ⟨gR, 0, none⟩)] w fun e w' => e = .returned (.agg #[.int .i64 ((tks T i).k : Int), .string (str (tks T i).t), .int .i64 ((tks T i).p : Int)]) ∧ Below w.heap.size w w' := by
  obtain ⟨c0, c1, c2⟩ := h.box.c
  obtain ⟨t0, t1, t2⟩ := h.toks i hi
  rw [← tks_get hi] at t0 t1 t2
  have hl1 := h.box.lt
  have hl2 : gt < w.heap.size := Nat.lt_trans h.lt hl1
  have hii : (i : Int) < (T.length : Int) := by omega
  have hT := h.len
  have hcap := h.cap
  clear h
  generalize tks T i = t at *
  generalize T.length = n at *
  go_enter Tryd.func19, Tryd.ntmps19
  go_wp2
  go_region
  go_wp2
  refine bodyPost_ret (v := .agg #[.int .i64 (t.k : Int), .string (str t.t), .int .i64 (t.p : Int)]) ?_ rfl ⟨rfl, ?_⟩
  · simp [results, Tryd.results19, go_sem]
  · exact ((Below.refl _ _).alloc (Nat.le_refl _) _).drew
theorem RS.step (h : RS w gR gt cap T i d) : RS (w.setCell ⟨gR, 1, none⟩ (.int .i64 ((i : Int) + 1))) gR gt cap T (i + 1) d :=
  h.at (heap_setCell_other w ⟨gR, 1, none⟩ gt _ (by have := h.lt; simp; omega)) (by have := h.box.set1 (.int .i64 ((i : Int) + 1)); simpa using this)
theorem RS.deeper (h : RS w gR gt cap T i d) : RS (w.setCell ⟨gR, 2, none⟩ (.int .i64 ((d : Int) + 1))) gR gt cap T i (d + 1) :=
  h.at (heap_setCell_other w ⟨gR, 2, none⟩ gt _ (by have := h.lt; simp; omega)) (by have := h.box.set2 (.int .i64 ((d : Int) + 1)); simpa using this)
theorem RS.higher (h : RS w gR gt cap T i (d + 1)) : RS (w.setCell ⟨gR, 2, none⟩ (.int .i64 (d : Int))) gR gt cap T i d :=
  h.at (heap_setCell_other w ⟨gR, 2, none⟩ gt _ (by have := h.lt; simp; omega)) (h.box.set2 (.int .i64 (d : Int)))
theorem str_eq {t u : List Nat} (ht : ∀ c ∈ t, c < 256) (hu : ∀ c ∈ u, c < 256) : ((str t).toList == (str u).toList) = decide (t = u) := by
  by_cases h : t = u
  · subst h; simp
  · rw [decide_eq_false h]
    apply beq_eq_false_iff_ne.2
    intro e
    apply h
    rw [← lst_str ht, ← lst_str hu]
    unfold lst
    rw [e]
theorem Tks.Ok.more (ok : Tks.Ok T) (hi : i < T.length) (h : (tks T i).t ≠ []) : i + 1 < T.length := by
  rw [tks_get hi] at h
  have h1 := ok.fin i hi
  by_cases he : i + 1 = T.length
  · exact absurd (h1 he).2 h
  · omega
theorem grow_step {w1 : World} (hb : Below w.heap.size w w1) (u : Value) : w.grownBy (w1.setCell ⟨gR, 1, none⟩ u) (some gR) := grow_set (grow_below (grow_refl _ _) hb) 1 u
theorem ptakes_yes (h : RS w gR gt cap T i d) (ok : Tks.Ok T) (hi : i < T.length) {u : List Nat} (hu : ∀ c ∈ u, c < 256) (hb : (tks T i).t = u) : Calls Tryd.prog 28 #[.pointer (some ⟨gR, 0, none⟩), .string (str u)] w fun e w' => e = .returned (.bool true) ∧ RS w' gR gt cap T (i + 1) d ∧ w.grownBy w' (some gR) := by
  have hs : ((str (tks T i).t).toList == (str u).toList) = true := by rw [hb]; simp
  have HN := hid (pnext_any h hi)
  have hT := h.len
  have h1 : (i : Int) + 1 ≤ 8200 := by omega
  have HS := hid h
  clear h ok hb hu
  generalize str u = s at *
  generalize str (tks T i).t = q at *
  go_enter Tryd.func28, Tryd.ntmps28
  go_wp2_with fail
  refine HN.out.mono ?_
  rintro e w1 ⟨rfl, hb1⟩
  have S1 := HS.out.below hb1
  obtain ⟨c0, c1, c2⟩ := S1.box.c
  have cf := S1.box.f
  have cl := S1.box.lt
  go_wp2_with fail
  go_ret
  exact ⟨rfl, S1.step, grow_step hb1 _⟩
theorem ptakes_no (h : RS w gR gt cap T i d) (ok : Tks.Ok T) (hi : i < T.length) {u : List Nat} (hu : ∀ c ∈ u, c < 256) (hb : (tks T i).t ≠ u) : Calls Tryd.prog 28 #[.pointer (some ⟨gR, 0, none⟩), .string (str u)] w fun e w' => e = .returned (.bool false) ∧ RS w' gR gt cap T i d ∧ Below w.heap.size w w' := by
  have hs := str_eq (ok.small i hi) hu
  rw [← tks_get hi, decide_eq_false hb] at hs
  have HN := hid (pnext_any h hi)
  have HS := hid h
  clear h ok hb hu
  generalize str u = s at *
  generalize str (tks T i).t = q at *
  go_enter Tryd.func28, Tryd.ntmps28
  go_wp2_with fail
  refine HN.out.mono ?_
  rintro e w1 ⟨rfl, hb1⟩
  go_wp2_with fail
  go_ret
  exact ⟨rfl, HS.out.below hb1, hb1⟩
theorem prefuse_any (h : RS w gR gt cap T i d) (hi : i < T.length) (x : Nat) : Calls Tryd.prog 37 #[.pointer (some ⟨gR, 0, none⟩), .int .i64 (x : Int)] w fun e w' => Gone T x i e ∧ Below w.heap.size w w' := by
  have HN := hid (pnext_any h hi)
  clear h
  go_enter Tryd.func37, Tryd.ntmps37
  go_wp2_with fail
  refine HN.out.mono ?_
  rintro e w1 ⟨rfl, hb1⟩
  go_wp2_with fail
  exact ⟨rfl, rfl, hb1⟩
theorem ptake_yes (h : RS w gR gt cap T i d) (ok : Tks.Ok T) (hi : i < T.length) {u : List Nat} (hu : ∀ c ∈ u, c < 256) (hb : (tks T i).t = u) : Calls Tryd.prog 25 #[.pointer (some ⟨gR, 0, none⟩), .string (str u)] w fun e w' => e = .returned (.tuple #[]) ∧ RS w' gR gt cap T (i + 1) d ∧ w.grownBy w' (some gR) := by
  have HN := hid (ptakes_yes h ok hi hu hb)
  clear h ok hb hu
  generalize str u = s at *
  go_enter Tryd.func25, Tryd.ntmps25
  go_wp2_with fail
  refine HN.out.mono ?_
  rintro e w1 ⟨rfl, h1, h2⟩
  go_wp2_with fail
  go_end0
  exact ⟨rfl, h1, h2⟩
theorem ptake_no (h : RS w gR gt cap T i d) (ok : Tks.Ok T) (hi : i < T.length) {u : List Nat} (hu : ∀ c ∈ u, c < 256) (hb : (tks T i).t ≠ u) : Calls Tryd.prog 25 #[.pointer (some ⟨gR, 0, none⟩), .string (str u)] w fun e w' => Gone T 4 i e ∧ Below w.heap.size w w' := by
  have HN := hid (ptakes_no h ok hi hu hb)
  clear h ok hb hu
  generalize str u = s at *
  go_enter Tryd.func25, Tryd.ntmps25
  go_wp2_with fail
  refine HN.out.mono ?_
  rintro e w1 ⟨rfl, h1, h2⟩
  go_wp2_with fail
  refine (prefuse_any h1 hi 4).mono ?_
  rintro e w2 ⟨rfl, h3⟩
  exact ⟨rfl, rfl, below_call h2 h3 h2.size⟩
theorem popen_yes (h : RS w gR gt cap T i d) (ok : Tks.Ok T) (hi : i < T.length) {u : List Nat} (hu : ∀ c ∈ u, c < 256) (hb : (tks T i).t = u) (hd : d ≠ 50) (hd2 : d ≤ 50) : Calls Tryd.prog 50 #[.pointer (some ⟨gR, 0, none⟩), .string (str u)] w fun e w' => e = .returned (.tuple #[]) ∧ RS w' gR gt cap T (i + 1) (d + 1) ∧ w.grownBy w' (some gR) := by
  have hs : ((str (tks T i).t).toList == (str u).toList) = true := by rw [hb]; simp
  have HN := hid (pnext_any h hi)
  have HT : Hid (∀ w1, RS w1 gR gt cap T i d → Calls Tryd.prog 25 #[.pointer (some ⟨gR, 0, none⟩), .string (str u)] w1 fun e w' => e = .returned (.tuple #[]) ∧ RS w' gR gt cap T (i + 1) d ∧ w1.grownBy w' (some gR)) := hid fun w1 h1 => ptake_yes h1 ok hi hu hb
  have HS := hid h
  have hd3 : ((d : Int) == 50) = false := by simp; omega
  have hd4 : (d : Int) + 1 ≤ 60 := by omega
  clear h ok hb hu hd
  generalize str u = s at *
  generalize str (tks T i).t = q at *
  go_enter Tryd.func50, Tryd.ntmps50
  go_wp2_with fail
  refine HN.out.mono ?_
  rintro e w1 ⟨rfl, hb1⟩
  have S1 := HS.out.below hb1
  obtain ⟨c0, c1, c2⟩ := S1.box.c
  go_wp2_with fail
  refine (HT.out w1 S1).mono ?_
  rintro e w2 ⟨rfl, S2, hb2⟩
  clear c0 c1 c2
  obtain ⟨c0, c1, c2⟩ := S2.box.c
  have cf := S2.box.f
  have cl := S2.box.lt
  go_wp2_with fail
  go_end0
  exact ⟨rfl, S2.deeper, grow_set (grow_trans (grow_below (grow_refl _ _) hb1) hb2) 2 _⟩
theorem popen_deep (h : RS w gR gt cap T i d) (ok : Tks.Ok T) (hi : i < T.length) {u : List Nat} (hu : ∀ c ∈ u, c < 256) (hb : (tks T i).t = u) (hd : d = 50) : Calls Tryd.prog 50 #[.pointer (some ⟨gR, 0, none⟩), .string (str u)] w fun e w' => Gone T 5 i e ∧ Below w.heap.size w w' := by
  have hs : ((str (tks T i).t).toList == (str u).toList) = true := by rw [hb]; simp
  have HN := hid (pnext_any h hi)
  have HS := hid h
  have hd3 : ((d : Int) == 50) = true := by simp; omega
  clear h ok hb hu hd
  generalize str u = s at *
  generalize str (tks T i).t = q at *
  go_enter Tryd.func50, Tryd.ntmps50
  go_wp2_with fail
  refine HN.out.mono ?_
  rintro e w1 ⟨rfl, hb1⟩
  have S1 := HS.out.below hb1
  obtain ⟨c0, c1, c2⟩ := S1.box.c
  go_wp2_with fail
  refine (prefuse_any S1 hi 5).mono ?_
  rintro e w2 ⟨rfl, h3⟩
  exact ⟨rfl, rfl, below_call hb1 h3 hb1.size⟩
theorem popen_no (h : RS w gR gt cap T i d) (ok : Tks.Ok T) (hi : i < T.length) {u : List Nat} (hu : ∀ c ∈ u, c < 256) (hb : (tks T i).t ≠ u) : Calls Tryd.prog 50 #[.pointer (some ⟨gR, 0, none⟩), .string (str u)] w fun e w' => Gone T 4 i e ∧ Below w.heap.size w w' := by
  have hs := str_eq (ok.small i hi) hu
  rw [← tks_get hi, decide_eq_false hb] at hs
  have HN := hid (pnext_any h hi)
  have HT : Hid (∀ w1, RS w1 gR gt cap T i d → Calls Tryd.prog 25 #[.pointer (some ⟨gR, 0, none⟩), .string (str u)] w1 fun e w' => Gone T 4 i e ∧ Below w1.heap.size w1 w') := hid fun w1 h1 => ptake_no h1 ok hi hu hb
  have HS := hid h
  clear h ok hb hu
  generalize str u = s at *
  generalize str (tks T i).t = q at *
  go_enter Tryd.func50, Tryd.ntmps50
  go_wp2_with fail
  refine HN.out.mono ?_
  rintro e w1 ⟨rfl, hb1⟩
  have S1 := HS.out.below hb1
  obtain ⟨c0, c1, c2⟩ := S1.box.c
  go_wp2_with fail
  refine (HT.out w1 S1).mono ?_
  rintro e w2 ⟨rfl, h3⟩
  exact ⟨rfl, rfl, below_call hb1 h3 hb1.size⟩
theorem pshut_any (h : RS w gR gt cap T i (d + 1)) (hd2 : d ≤ 50) : Calls Tryd.prog 51 #[.pointer (some ⟨gR, 0, none⟩)] w fun e w' => e = .returned (.tuple #[]) ∧ RS w' gR gt cap T i d ∧ w.grownBy w' (some gR) := by
  obtain ⟨c0, c1, c2⟩ := h.box.c
  have cf := h.box.f
  have cl := h.box.lt
  have HS := hid h
  have hd4 : (d : Int) ≤ 60 := by omega
  clear h
  go_enter Tryd.func51, Tryd.ntmps51
  go_wp2_with fail
  go_end0
  exact ⟨rfl, HS.out.higher, grow_set (grow_refl _ _) 2 _⟩
theorem ptext_yes (h : RS w gR gt cap T i d) (hi : i < T.length) {k : Nat} (hb : (tks T i).k = k) : Calls Tryd.prog 38 #[.pointer (some ⟨gR, 0, none⟩), .int .i64 (k : Int)] w fun e w' => e = .returned (.string (str (tks T i).t)) ∧ RS w' gR gt cap T (i + 1) d ∧ w.grownBy w' (some gR) := by
  have HN := hid (pnext_any h hi)
  have hT := h.len
  have h1 : (i : Int) + 1 ≤ 8200 := by omega
  have HS := hid h
  have hk : (((tks T i).k : Int) == (k : Int)) = true := by simp [hb]
  clear h hb
  generalize tks T i = t at *
  go_enter Tryd.func38, Tryd.ntmps38
  go_wp2_with fail
  refine HN.out.mono ?_
  rintro e w1 ⟨rfl, hb1⟩
  have S1 := HS.out.below hb1
  obtain ⟨c0, c1, c2⟩ := S1.box.c
  have cf := S1.box.f
  have cl := S1.box.lt
  go_wp2_with fail
  go_ret
  exact ⟨rfl, S1.step.below ((Below.refl _ _).alloc (Nat.le_refl _) _), grow_alloc (grow_step hb1 _) _⟩
theorem ptext_no (h : RS w gR gt cap T i d) (hi : i < T.length) {k : Nat} (hb : (tks T i).k ≠ k) : Calls Tryd.prog 38 #[.pointer (some ⟨gR, 0, none⟩), .int .i64 (k : Int)] w fun e w' => Gone T 4 i e ∧ Below w.heap.size w w' := by
  have HN := hid (pnext_any h hi)
  have HS := hid h
  have hk : (((tks T i).k : Int) == (k : Int)) = false := by simp; omega
  have HG : Hid (∀ w1, RS w1 gR gt cap T i d → Calls Tryd.prog 37 #[.pointer (some ⟨gR, 0, none⟩), .int .i64 4] w1 fun e w' => Gone T 4 i e ∧ Below w1.heap.size w1 w') := hid fun w1 h1 => prefuse_any h1 hi 4
  clear h hb
  generalize hTK : tks T i = t at *
  go_enter Tryd.func38, Tryd.ntmps38
  go_wp2_with fail
  refine HN.out.mono ?_
  rintro e w1 ⟨rfl, hb1⟩
  have S1 := HS.out.below hb1
  obtain ⟨c0, c1, c2⟩ := S1.box.c
  go_wp2_with fail
  have hb2 : Below w.heap.size w (w1.alloc (.cells #[.int .i64 (t.k : Int), .string (str t.t), .int .i64 (t.p : Int)] 35)) := hb1.alloc hb1.size _
  refine (HG.out _ (HS.out.below hb2)).mono ?_
  rintro e w2 ⟨hg, h3⟩
  unfold Gone at hg
  subst hg
  exact ⟨rfl, rfl, below_call hb2 h3 hb2.size⟩
theorem pname_yes (h : RS w gR gt cap T i d) (hi : i < T.length) (hb : (tks T i).k = 1) : Calls Tryd.prog 26 #[.pointer (some ⟨gR, 0, none⟩)] w fun e w' => e = .returned (.string (str (tks T i).t)) ∧ RS w' gR gt cap T (i + 1) d ∧ w.grownBy w' (some gR) := by
  have HN := hid (ptext_yes h hi hb)
  clear h hb
  go_enter Tryd.func26, Tryd.ntmps26
  go_wp2_with fail
  refine HN.out.mono ?_
  rintro e w1 ⟨rfl, h1, h2⟩
  go_wp2_with fail
  go_ret
  exact ⟨rfl, h1, h2⟩
theorem pname_no (h : RS w gR gt cap T i d) (hi : i < T.length) (hb : (tks T i).k ≠ 1) : Calls Tryd.prog 26 #[.pointer (some ⟨gR, 0, none⟩)] w fun e w' => Gone T 4 i e ∧ Below w.heap.size w w' := by
  have HN := hid (ptext_no h hi hb)
  clear h hb
  go_enter Tryd.func26, Tryd.ntmps26
  go_wp2_with fail
  refine HN.out.mono ?_
  rintro e w1 ⟨hg, h2⟩
  unfold Gone at hg
  subst hg
  exact ⟨rfl, rfl, h2⟩
end
end Go.Proofs.YtjofhaakkleecaaDoor
