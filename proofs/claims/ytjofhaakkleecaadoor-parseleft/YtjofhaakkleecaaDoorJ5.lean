/-
  Walks: the closure that tells the next token.
-/
import Derived.Test.YtjofhaakkleecaaDoorJ4
import Derived.Deep.RegionHeld3
namespace Go.Proofs.YtjofhaakkleecaaDoor
open Go.RowKit Lx
set_option linter.unusedSimpArgs false
set_option linter.unusedVariables false
set_option maxRecDepth 100000

/-- A box of one cell. -/
def Box1 (w : World) (g : Nat) (v : Value) : Prop := ∃ T, w.heap[g]? = some (.cells #[v] T (0, 0))
theorem Box1.lt {w : World} {g : Nat} {v : Value} (h : Box1 w g v) : g < w.heap.size := by
  obtain ⟨T, h⟩ := h
  exact (Array.getElem?_eq_some_iff.1 h).1
theorem Box1.c {w : World} {g : Nat} {v : Value} (h : Box1 w g v) : w.cell? ⟨g, 0, none⟩ = some v := by
  obtain ⟨T, h⟩ := h
  rw [cell_of_row w g 0 #[v] T (0, 0) h]
  rfl
theorem Box1.f {w : World} {g : Nat} {v : Value} (h : Box1 w g v) (i : Nat) : w.frozen? ⟨g, i, none⟩ = false := by
  obtain ⟨T, h⟩ := h
  exact frozen_of_row w g i #[v] T h
theorem Box1.keep {w w' : World} {g : Nat} {v : Value} (h : Box1 w g v) (hb : Below w.heap.size w w') : Box1 w' g v := by
  have hl := h.lt
  obtain ⟨T, h⟩ := h
  exact ⟨T, (hb.block g hl).trans h⟩
theorem Box1.grown {w w' : World} {g : Nat} {v : Value} {row : Option Nat} (h : Box1 w g v) (hg : w.grownBy w' row) (hne : some g ≠ row) : Box1 w' g v := by
  have hl := h.lt
  obtain ⟨T, h⟩ := h
  exact ⟨T, (hg.block g hl hne).trans h⟩
theorem Box1.new (w : World) (v : Value) (T : TypeId) : Box1 (w.alloc (.cells #[v] T)) w.heap.size v := ⟨T, heap_alloc_new w _⟩
theorem Box1.alloc {w : World} {g : Nat} {v : Value} (h : Box1 w g v) (o : Obj) : Box1 (w.alloc o) g v := h.keep ((Below.refl _ _).alloc (Nat.le_refl _) o)
theorem Box1.drew {w : World} {g : Nat} {v : Value} (h : Box1 w g v) : Box1 w.drew g v := h
theorem Box1.set {w : World} {g : Nat} {v : Value} (h : Box1 w g v) (u : Value) : Box1 (w.setCell ⟨g, 0, none⟩ u) g u := by
  obtain ⟨T, h⟩ := h
  refine ⟨T, ?_⟩
  rw [heap_setCell_same w g 0 #[v] T u h]
  rfl
theorem Box1.other {w : World} {g : Nat} {v : Value} (h : Box1 w g v) {a : Addr} (ha : g ≠ a.block) (u : Value) : Box1 (w.setCell a u) g v := by
  obtain ⟨T, h⟩ := h
  exact ⟨T, (heap_setCell_other w a g u ha).trans h⟩

/-- The block of a token. -/
def TkBox (w : World) (g : Nat) (x y z : Value) : Prop := w.heap[g]? = some (.cells #[x, y, z] 35 (0, 0))
theorem TkBox.lt {w : World} {g : Nat} {x y z : Value} (h : TkBox w g x y z) : g < w.heap.size := (Array.getElem?_eq_some_iff.1 h).1
theorem TkBox.c {w : World} {g : Nat} {x y z : Value} (h : TkBox w g x y z) : w.cell? ⟨g, 0, none⟩ = some x ∧ w.cell? ⟨g, 1, none⟩ = some y ∧ w.cell? ⟨g, 2, none⟩ = some z := by
  refine ⟨?_, ?_, ?_⟩
  · rw [cell_of_row w g 0 #[x, y, z] _ _ h]; rfl
  · rw [cell_of_row w g 1 #[x, y, z] _ _ h]; rfl
  · rw [cell_of_row w g 2 #[x, y, z] _ _ h]; rfl
theorem TkBox.f {w : World} {g : Nat} {x y z : Value} (h : TkBox w g x y z) (i : Nat) : w.frozen? ⟨g, i, none⟩ = false := frozen_of_row w g i #[x, y, z] _ h
theorem TkBox.keep {w w' : World} {g : Nat} {x y z : Value} (h : TkBox w g x y z) (hb : Below w.heap.size w w') : TkBox w' g x y z := (hb.block g h.lt).trans h
theorem TkBox.grown {w w' : World} {g : Nat} {x y z : Value} {row : Option Nat} (h : TkBox w g x y z) (hg : w.grownBy w' row) (hne : some g ≠ row) : TkBox w' g x y z := (hg.block g h.lt hne).trans h
theorem TkBox.new (w : World) (x y z : Value) : TkBox (w.alloc (.cells #[x, y, z] 35)) w.heap.size x y z := heap_alloc_new w _
theorem TkBox.alloc {w : World} {g : Nat} {x y z : Value} (h : TkBox w g x y z) (o : Obj) : TkBox (w.alloc o) g x y z := h.keep ((Below.refl _ _).alloc (Nat.le_refl _) o)
theorem TkBox.other {w : World} {g : Nat} {x y z : Value} (h : TkBox w g x y z) {a : Addr} (ha : g ≠ a.block) (u : Value) : TkBox (w.setCell a u) g x y z := (heap_setCell_other w a g u ha).trans h

theorem clone_any (w : World) (s : ByteArray) (hs : s.size ≤ 8192) : Calls Tryd.prog 23 #[.string s] w fun e w' => e = .returned (.string s) ∧ Below w.heap.size w w' := by
  go_enter Tryd.func23, Tryd.ntmps23
  go_wp2_with (go_at_call 36; refine (Tryd.stringslite_Clone s _ (by omega)).mono ?_; rintro e w1 ⟨rfl, hb⟩)
  go_ret
  exact ⟨rfl, hb⟩

theorem gap_k (w : World) (s : ByteArray) (p m : Nat) (hs : s.size ≤ 8192) (hp : p ≤ s.size) (hm : m = gapN false ((lst s).drop p)) : Calls Tryd.prog 21 #[.string (s.extract p s.size)] w fun e w' => e = .returned (.int .i64 (m : Nat)) ∧ w' = w := by
  have := gap_any w (s.extract p s.size) (by rw [ByteArray.size_extract]; omega)
  rw [lst_from, ← hm] at this
  exact this
theorem first_k (w : World) (s : ByteArray) (p : Nat) (a : Nat × Nat × Nat) (hs : s.size ≤ 8192) (hp : p ≤ s.size) (ha : firstN ((lst s).drop p) = a) : Calls Tryd.prog 22 #[.string (s.extract p s.size)] w fun e w' => e = told3 a ∧ w' = w := by
  have := first_any w (s.extract p s.size) (by rw [ByteArray.size_extract]; omega)
  rw [lst_from, ha] at this
  exact this

theorem grow_refl (w : World) (row : Option Nat) : w.grownBy w row := ⟨rfl, rfl, rfl, Nat.le_refl _, fun _ _ _ => rfl⟩
theorem grow_set {w wr : World} {g : Nat} (h : w.grownBy wr (some g)) (i : Nat) (u : Value) : w.grownBy (wr.setCell ⟨g, i, none⟩ u) (some g) :=
  ⟨h.os, h.tape, h.output, by simpa [World.setCell] using h.size, fun k hk hne => (Below.heap_setCell wr ⟨g, i, none⟩ u k (by intro e; apply hne; simp [e])).trans (h.block k hk hne)⟩
theorem grow_new {w wr : World} {row : Option Nat} {b : Nat} (h : w.grownBy wr row) (hb : w.heap.size ≤ b) (i : Nat) (u : Value) : w.grownBy (wr.setCell ⟨b, i, none⟩ u) row :=
  ⟨h.os, h.tape, h.output, by simpa [World.setCell] using h.size, fun k hk hne => (Below.heap_setCell wr ⟨b, i, none⟩ u k (by simp; omega)).trans (h.block k hk hne)⟩
theorem grow_drew {w wr : World} {row : Option Nat} (h : w.grownBy wr row) : w.grownBy wr.drew row := ⟨h.os, h.tape, h.output, h.size, h.block⟩
theorem grow_alloc {w wr : World} {row : Option Nat} (h : w.grownBy wr row) (o : Obj) : w.grownBy (wr.alloc o) row :=
  ⟨h.os, h.tape, h.output, by simp; have := h.size; omega, fun k hk hne => (Below.heap_alloc wr o k (Nat.lt_of_lt_of_le hk h.size)).trans (h.block k hk hne)⟩
theorem grow_trans {w w1 w2 : World} {row : Option Nat} (h : w.grownBy w1 row) (k : w1.grownBy w2 row) : w.grownBy w2 row :=
  ⟨k.os.trans h.os, k.tape.trans h.tape, k.output.trans h.output, Nat.le_trans h.size k.size, fun i hi hne => (k.block i (Nat.lt_of_lt_of_le hi h.size) hne).trans (h.block i hi hne)⟩
theorem grow_below {w w1 w2 : World} {row : Option Nat} (h : w.grownBy w1 row) (k : Below w1.heap.size w1 w2) : w.grownBy w2 row :=
  ⟨k.os.trans h.os, k.tape.trans h.tape, k.output.trans h.output, Nat.le_trans h.size k.size, fun i hi hne => (k.block i (Nat.lt_of_lt_of_le hi h.size)).trans (h.block i hi hne)⟩

/-- Behind the gap. -/
def NextMid (w : World) (s : ByteArray) (g gs q : Nat) (wc : World) : Prop :=
  Box1 wc g (.int .i64 (q : Int)) ∧ Box1 wc gs (.string s) ∧ TkBox wc w.heap.size (.int .i64 0) (.string ⟨#[]⟩) (.int .i64 0) ∧ w.grownBy wc (some g)
theorem nextMid {w : World} {s : ByteArray} {g gs q : Nat} {v u : Value} (hg : Box1 w g v) (hgs : Box1 w gs (.string s)) (hne : g ≠ gs) (hu : u = .int .i64 (q : Int)) :
    NextMid w s g gs q ((w.setCell ⟨g, 0, none⟩ u).alloc (.cells #[.int .i64 0, .string ⟨#[]⟩, .int .i64 0] 35)).drew := by
  subst hu
  have e : (w.setCell ⟨g, 0, none⟩ (.int .i64 (q : Int))).heap.size = w.heap.size := by simp
  have h3 := TkBox.new (w.setCell ⟨g, 0, none⟩ (.int .i64 (q : Int))) (.int .i64 0) (.string ⟨#[]⟩) (.int .i64 0)
  rw [e] at h3
  exact ⟨((hg.set _).alloc _).drew, ((hgs.other (by simpa using Ne.symm hne) _).alloc _).drew, h3, grow_drew (grow_alloc (grow_set (grow_refl _ _) 0 _) _)⟩

/-- What is told of the next token. -/
def NextOut (w : World) (s : ByteArray) (g q k n x : Nat) (e : Ending) (w' : World) : Prop :=
  w.grownBy w' (some g) ∧
  ((x ≠ 0 ∧ e = .returned (.tuple #[.agg #[.int .i64 0, .string ⟨#[]⟩, .int .i64 (q : Int)], .int .i64 (x : Int)]) ∧ Box1 w' g (.int .i64 (q : Int))) ∨
   (x = 0 ∧ e = .returned (.tuple #[.agg #[.int .i64 (k : Int), .string (s.extract q (q + n)), .int .i64 (q : Int)], .int .i64 0]) ∧ Box1 w' g (.int .i64 ((q + n : Nat) : Int))))

set_option maxHeartbeats 3200000 in
theorem next_any (w : World) (s : ByteArray) (g gs p m : Nat) (a : Nat × Nat × Nat) (hs : s.size ≤ 8192) (hp : p ≤ s.size) (hg : Box1 w g (.int .i64 p)) (hgs : Box1 w gs (.string s)) (hne : g ≠ gs) (hm : m = gapN false ((lst s).drop p)) (ha : firstN ((lst s).drop (p + m)) = a) :
    Calls Tryd.prog 20 #[.pointer (some ⟨g, 0, none⟩), .pointer (some ⟨gs, 0, none⟩)] w (NextOut w s g (p + m) a.1 a.2.1 a.2.2) := by
  have hmk : m ≤ s.size - p := by
    have := gapN_le false ((lst s).drop p)
    rw [List.length_drop, lst_length] at this
    rw [hm]; exact this
  have hak : a.2.1 ≤ s.size - (p + m) := by
    have := firstN_le ((lst s).drop (p + m))
    rw [List.length_drop, lst_length, ha] at this
    exact this
  obtain ⟨k, n, x⟩ := a
  simp only at hak
  have HM := hid hm
  have HA := hid ha
  have HQ : Hid (Value.int .i64 (IntKind.i64.wrap ((p : Int) + (m : Int))) = .int .i64 ((p + m : Nat) : Int)) := hid (congrArg (Value.int .i64) (by rw [IntKind.wrap_i64]; omega))
  clear hm ha
  have c1 := hg.c
  have c2 := hgs.c
  have f1 := hg.f
  have l1 := hg.lt
  have l2 := hgs.lt
  have n1 : g ≠ w.heap.size := by omega
  have n2 : gs ≠ w.heap.size := by omega
  go_enter Tryd.func20, Tryd.ntmps20
  go_wp2_with fail
  go_cut [] (fun wc => NextMid w s g gs (p + m) wc)
  case first =>
    go_region_with (go_at_call 21; refine (gap_k _ _ _ m hs hp HM.out).mono ?_; rintro e w1 ⟨rfl, rfl⟩)
    all_goals (go_wp2_with fail; go_meet; exact nextMid hg hgs hne HQ.out)
  case rest =>
    obtain ⟨bg, bs, bt, gw⟩ := hcut
    have hq : p + m ≤ s.size := by omega
    have hak : n ≤ s.size - (p + m) := hak
    generalize p + m = q at *
    clear c1 c2 f1 HQ
    have c1 := bg.c
    have f1 := bg.f
    have c2 := bs.c
    have cl := bg.lt
    by_cases hx : x = 0
    · subst hx
      have hsz : (s.extract q (q + n)).size ≤ 8192 := by rw [ByteArray.size_extract]; omega
      go_wp2_with (go_at_call 22; refine (first_k _ _ q _ hs hq HA.out).mono ?_; rintro e w1 ⟨rfl, rfl⟩; unfold told3)
      have hu : Value.int .i64 ((q : Int) + (n : Int)) = .int .i64 ((q + n : Nat) : Int) := by rw [Int.natCast_add]
      rw [hu]
      refine (clone_any _ _ hsz).mono ?_
      rintro e w2 ⟨rfl, hb⟩
      have bg2 := (bg.set (.int .i64 ((q + n : Nat) : Int))).keep hb
      have bs2 := (bs.other (a := ⟨g, 0, none⟩) (Ne.symm hne) (.int .i64 ((q + n : Nat) : Int))).keep hb
      have bt2 := (bt.other (a := ⟨g, 0, none⟩) (by simp; omega) (.int .i64 ((q + n : Nat) : Int))).keep hb
      have gw2 := hid (grow_new (grow_new (grow_new (grow_below (grow_set gw 0 (.int .i64 ((q + n : Nat) : Int))) hb) (Nat.le_refl _) 0 (.int .i64 (k : Int))) (Nat.le_refl _) 1 (.string (s.extract q (q + n)))) (Nat.le_refl _) 2 (.int .i64 (q : Int)))
      have HB := hid (((bg2.other (a := ⟨w.heap.size, 0, none⟩) (by simp; omega) (.int .i64 (k : Int))).other (a := ⟨w.heap.size, 1, none⟩) (by simp; omega) (.string (s.extract q (q + n)))).other (a := ⟨w.heap.size, 2, none⟩) (by simp; omega) (.int .i64 (q : Int)))
      clear hb gw c1 c2 f1 cl
      obtain ⟨t0, t1, t2⟩ := bt2.c
      have tf := bt2.f
      have tl := bt2.lt
      have c1 := bg2.c
      go_wp2
      refine bodyPost_ret (v := .tuple #[.agg #[.int .i64 (k : Int), .string (s.extract q (q + n)), .int .i64 (q : Int)], .int .i64 0]) ?_ rfl ⟨gw2.out, .inr ⟨rfl, rfl, HB.out⟩⟩
      simp [results, Tryd.results20, go_sem, t0, t1, t2, tl]
    · have hxi : ((x : Int) == 0) = false := by simp; omega
      have HX := hid hx
      have gw2 := hid (grow_new (grow_new (grow_new gw (Nat.le_refl _) 0 (.int .i64 0)) (Nat.le_refl _) 1 (.string ⟨#[]⟩)) (Nat.le_refl _) 2 (.int .i64 (q : Int)))
      have HB := hid (((bg.other (a := ⟨w.heap.size, 0, none⟩) (by simp; omega) (.int .i64 0)).other (a := ⟨w.heap.size, 1, none⟩) (by simp; omega) (.string ⟨#[]⟩)).other (a := ⟨w.heap.size, 2, none⟩) (by simp; omega) (.int .i64 (q : Int)))
      obtain ⟨t0, t1, t2⟩ := bt.c
      have tf := bt.f
      have tl := bt.lt
      clear gw hx
      go_wp2_with (go_at_call 22; refine (first_k _ _ q _ hs hq HA.out).mono ?_; rintro e w1 ⟨rfl, rfl⟩; unfold told3)
      refine bodyPost_ret (v := .tuple #[.agg #[.int .i64 0, .string ⟨#[]⟩, .int .i64 (q : Int)], .int .i64 (x : Int)]) ?_ rfl ⟨gw2.out, .inl ⟨HX.out, rfl, HB.out⟩⟩
      simp [results, Tryd.results20, go_sem, t0, t1, t2, tl]

end Go.Proofs.YtjofhaakkleecaaDoor
