/-
  Walks: Prog.
-/
import Derived.Test.YtjofhaakkleecaaDoorQ23
namespace Go.Proofs.YtjofhaakkleecaaDoor
open Go.RowKit Lx
set_option linter.unusedSimpArgs false
set_option linter.unusedVariables false
set_option maxRecDepth 100000

set_option maxHeartbeats 3200000 in
theorem pProg_any (w : World) (s : ByteArray) (hs : s.size ≤ 9223372036854775807) : Calls Tryd.prog 7 #[.string s] w (ProgOut w (progS (lst s))) := by
  have HL := hid (fun W => lex_any W s hs)
  have HS := hid (lst_small s)
  have HU : Hid (progS (lst s) = if (lexS (lst s)).2.1 ≠ 0 then ([], (lexS (lst s)).2) else match progR (tks (lexS (lst s)).1) 8200 with | .ok L _ => (L, 0, 0) | .bad x j => ([], x, (tks (lexS (lst s)).1 j).p)) := hid rfl
  have HO := hid (fun (h : (lexS (lst s)).2.1 = 0) => lexS_ok HS.out h)
  have hmf : ∀ (fn : Fn) (first cap : Array Value) (w : World), (Instr.makeFunc fn first cap).run Tryd.prog w = .ok (.func fn first cap) w := fun _ _ _ _ => rfl
  generalize lexS (lst s) = a at *
  obtain ⟨T, x, p⟩ := a
  by_cases hx : x = 0
  · subst hx
    obtain ⟨hok, hlen, -⟩ := HO.out rfl
    have HU2 : Hid (progS (lst s) = match progR (tks T) 8200 with | .ok L _ => (L, 0, 0) | .bad x j => ([], x, (tks T j).p)) := hid (by rw [HU.out]; rfl)
    have HOK := hid hok
    have HLEN := hid hlen
    clear HU HO hs hok hlen
    go_enter_defers Tryd.func7, Tryd.ntmps7
    go_wp2_with fail
    refine (HL.out _).mono ?_
    rintro e w1 ⟨v, rfl, hown, hb1⟩
    have B2 : Box1 w1 w.heap.size (.slice none 0 0) := (((Box1.new w (.slice none 0 0) 25).alloc _).alloc _).keep hb1
    have B3 : Box1 w1 (w.heap.size + 1) (.int .i64 0) := by have := ((Box1.new (w.alloc (.cells #[.slice none 0 0] 25)) (.int .i64 0) 26).alloc (.cells #[.int .i64 0] 3)).keep hb1; rw [asize] at this; exact this
    have B4 : Box1 w1 (w.heap.size + 1 + 1) (.int .i64 0) := by have := (Box1.new ((w.alloc (.cells #[.slice none 0 0] 25)).alloc (.cells #[.int .i64 0] 26)) (.int .i64 0) 3).keep hb1; rw [asize, asize] at this; exact this
    have c2 := B2.c
    have c3 := B3.c
    have c4 := B4.c
    have f2 := B2.f
    have f3 := B3.f
    have f4 := B4.f
    have l2 := B2.lt
    have l3 := B3.lt
    have l4 := B4.lt
    have HW := hid (show Below w.heap.size w w1 from below_call (by exact (((Below.refl _ _).alloc (Nat.le_refl _) _).alloc (by simp) _).alloc (by simp; omega) _) hb1 (by simp; omega))
    obtain ⟨ao, cap, rfl, hc1, hc2, hsh⟩ := hown.shape
    obtain ⟨gt, rfl, hgt1, hgt2, htk⟩ : ∃ gt, ao = some ⟨gt, 0, none⟩ ∧ w.heap.size + 3 ≤ gt ∧ gt < w1.heap.size ∧ ∀ j (hj : j < T.length), At3 w1 gt (j * 3) T[j] := by
      rcases hsh with h | ⟨g, h1, h2, h3, h4⟩
      · have := HOK.out.pos; have h' : T.length = 0 := h; omega
      · exact ⟨g, h1, by simpa using h2, h3, h4⟩
    have HB := hid B2
    have HB3 := hid B3
    have HB4 := hid B4
    have HTK := hid htk
    have HCP := hid (And.intro hc1 hc2)
    clear B2 B3 B4 hown hb1 hsh htk hc1 hc2
    go_wp2_with fail
    have D2 := ((HB.out.other (a := ⟨w.heap.size + 1, 0, none⟩) (by simp) (.int .i64 0)).other (a := ⟨w.heap.size + 1 + 1, 0, none⟩) (by simp; omega) (.int .i64 (p : Int))).alloc (.cells #[.slice (some ⟨gt, 0, none⟩) T.length cap, .int .i64 0, .int .i64 0] 56)
    have D3 := ((HB3.out.set (.int .i64 0)).other (a := ⟨w.heap.size + 1 + 1, 0, none⟩) (by simp) (.int .i64 (p : Int))).alloc (.cells #[.slice (some ⟨gt, 0, none⟩) T.length cap, .int .i64 0, .int .i64 0] 56)
    have D4 := ((HB4.out.other (a := ⟨w.heap.size + 1, 0, none⟩) (by simp) (.int .i64 0)).set (.int .i64 (p : Int))).alloc (.cells #[.slice (some ⟨gt, 0, none⟩) T.length cap, .int .i64 0, .int .i64 0] 56)
    have DW : Below w.heap.size w (((w1.setCell ⟨w.heap.size + 1, 0, none⟩ (.int .i64 0)).setCell ⟨w.heap.size + 1 + 1, 0, none⟩ (.int .i64 (p : Int))).alloc (.cells #[.slice (some ⟨gt, 0, none⟩) T.length cap, .int .i64 0, .int .i64 0] 56)) := (((HW.out.setCell (by simp) _).setCell (by simp; omega) _).alloc (by simp [World.setCell]; omega) _)
    have DB : Box3 (((w1.setCell ⟨w.heap.size + 1, 0, none⟩ (.int .i64 0)).setCell ⟨w.heap.size + 1 + 1, 0, none⟩ (.int .i64 (p : Int))).alloc (.cells #[.slice (some ⟨gt, 0, none⟩) T.length cap, .int .i64 0, .int .i64 0] 56)) w1.heap.size (.slice (some ⟨gt, 0, none⟩) T.length cap) (.int .i64 ((0 : Nat) : Int)) (.int .i64 ((0 : Nat) : Int)) := by
      have := Box3.new ((w1.setCell ⟨w.heap.size + 1, 0, none⟩ (.int .i64 0)).setCell ⟨w.heap.size + 1 + 1, 0, none⟩ (.int .i64 (p : Int))) (.slice (some ⟨gt, 0, none⟩) T.length cap) (.int .i64 0) (.int .i64 0) 56
      have e : ((w1.setCell ⟨w.heap.size + 1, 0, none⟩ (.int .i64 0)).setCell ⟨w.heap.size + 1 + 1, 0, none⟩ (.int .i64 (p : Int))).heap.size = w1.heap.size := by simp [World.setCell]
      rw [e] at this
      exact this
    have DT : (((w1.setCell ⟨w.heap.size + 1, 0, none⟩ (.int .i64 0)).setCell ⟨w.heap.size + 1 + 1, 0, none⟩ (.int .i64 (p : Int))).alloc (.cells #[.slice (some ⟨gt, 0, none⟩) T.length cap, .int .i64 0, .int .i64 0] 56)).heap[gt]? = w1.heap[gt]? :=
      (Below.heap_alloc _ _ gt (by simp [World.setCell]; exact hgt2)).trans ((heap_setCell_other _ ⟨w.heap.size + 1 + 1, 0, none⟩ gt _ (by simp; omega)).trans (heap_setCell_other _ ⟨w.heap.size + 1, 0, none⟩ gt _ (by simp; omega)))
    have DS : (((w1.setCell ⟨w.heap.size + 1, 0, none⟩ (.int .i64 0)).setCell ⟨w.heap.size + 1 + 1, 0, none⟩ (.int .i64 (p : Int))).alloc (.cells #[.slice (some ⟨gt, 0, none⟩) T.length cap, .int .i64 0, .int .i64 0] 56)).heap.size = w1.heap.size + 1 := by simp [World.setCell]
    clear c2 c3 c4 f2 f3 f4 HB HB3 HB4
    generalize (((w1.setCell ⟨w.heap.size + 1, 0, none⟩ (.int .i64 0)).setCell ⟨w.heap.size + 1 + 1, 0, none⟩ (.int .i64 (p : Int))).alloc (.cells #[.slice (some ⟨gt, 0, none⟩) T.length cap, .int .i64 0, .int .i64 0] 56)) = w2 at *
    have DR : RS w2 w1.heap.size gt cap T 0 0 := ⟨DB, fun j hj => by
      obtain ⟨t0, t1, t2⟩ := HTK.out j hj
      exact ⟨(World.cell?_of_block (a := ⟨gt, j * 3, none⟩) DT).trans t0, (World.cell?_of_block (a := ⟨gt, j * 3 + 1, none⟩) DT).trans t1, (World.cell?_of_block (a := ⟨gt, j * 3 + 2, none⟩) DT).trans t2⟩, hgt2, HCP.out, HLEN.out⟩
    have HD2 := hid D2
    have HD3 := hid D3
    have HD4 := hid D4
    have HDW := hid DW
    clear D2 D3 D4 DW DB DT HTK
    refine (pprog_any HOK.out HLEN.out w2 w1.heap.size gt cap DR).mono ?_
    intro e w3 h3
    rcases rout_cases h3 with ⟨L, j, v, hr, rfl, ⟨ag, mg, cg, rfl, hv⟩, hr3, hg3⟩ | ⟨x, j, hr, hg, hg3⟩
    · have HU3 : Hid (progS (lst s) = (L, 0, 0)) := hid (by rw [HU2.out, hr])
      have B2 := HD2.out.grown hg3 (by simp; omega)
      have B3 := HD3.out.grown hg3 (by simp; omega)
      have B4 := HD4.out.grown hg3 (by simp; omega)
      have c2 := B2.c
      have c3 := B3.c
      have c4 := B4.c
      have f2 := B2.f
      have f3 := B3.f
      have f4 := B4.f
      have m2 := B2.lt
      have m3 := B3.lt
      have m4 := B4.lt
      have HB2 := hid B2
      have HB3 := hid B3
      have HB4 := hid B4
      have HW3 : Hid (Below w.heap.size w w3) := hid (HDW.out.grown hg3 (by omega) (by intro g e; simp at e; omega))
      have HV := hid hv
      have HS3 := hid hg3.size
      clear h3 hr hr3 hg3 hv B2 B3 B4 HD2 HD3 HD4 DR HDW HW
      go_wp2_with fail
      have E2 := ((HB2.out.set (.slice ag mg cg)).other (a := ⟨w.heap.size + 1, 0, none⟩) (by simp) (.int .i64 0)).other (a := ⟨w.heap.size + 1 + 1, 0, none⟩) (by simp; omega) (.int .i64 0)
      have E3 := ((HB3.out.other (a := ⟨w.heap.size, 0, none⟩) (by simp) (.slice ag mg cg)).set (.int .i64 0)).other (a := ⟨w.heap.size + 1 + 1, 0, none⟩) (by simp) (.int .i64 0)
      have E4 := ((HB4.out.other (a := ⟨w.heap.size, 0, none⟩) (by simp; omega) (.slice ag mg cg)).other (a := ⟨w.heap.size + 1, 0, none⟩) (by simp) (.int .i64 0)).set (.int .i64 0)
      have EW : Below w.heap.size w (((w3.setCell ⟨w.heap.size, 0, none⟩ (.slice ag mg cg)).setCell ⟨w.heap.size + 1, 0, none⟩ (.int .i64 0)).setCell ⟨w.heap.size + 1 + 1, 0, none⟩ (.int .i64 0)) := (((HW3.out.setCell (by simp) _).setCell (by simp) _).setCell (by simp; omega) _)
      have EM : Mid w.heap.size (w1.heap.size + 1) w3 (((w3.setCell ⟨w.heap.size, 0, none⟩ (.slice ag mg cg)).setCell ⟨w.heap.size + 1, 0, none⟩ (.int .i64 0)).setCell ⟨w.heap.size + 1 + 1, 0, none⟩ (.int .i64 0)) := (((Mid.refl _ _ _).set (by omega) (by omega) _).set (by omega) (by omega) _).set (by omega) (by omega) _
      clear c2 c3 c4 f2 f3 f4 HB2 HB3 HB4
      generalize (((w3.setCell ⟨w.heap.size, 0, none⟩ (.slice ag mg cg)).setCell ⟨w.heap.size + 1, 0, none⟩ (.int .i64 0)).setCell ⟨w.heap.size + 1 + 1, 0, none⟩ (.int .i64 0)) = W at *
      have d2 := E2.c
      have d3 := E3.c
      have d4 := E4.c
      rw [HU3.out]
      have HPO : ProgOut w (L, 0, 0) (.returned (.tuple #[.agg #[.slice ag mg cg], .int .i64 0, .int .i64 0])) W := ⟨_, rfl, ⟨ag, mg, cg, rfl, (HV.out.move (w' := w3) (ok' := fun b => w1.heap.size + 1 ≤ b) ⟨Nat.le_refl _, fun b _ hb => ⟨rfl, by omega⟩⟩).move (EM.same (by omega))⟩, EW⟩
      have HPOH := hid HPO
      clear HPO
      refine leaves_cons (f := 12) (args := #[.pointer (some ⟨w.heap.size, 0, none⟩), .pointer (some ⟨w.heap.size + 1, 0, none⟩), .pointer (some ⟨w.heap.size + 1 + 1, 0, none⟩)]) (by simp) (by simp [go_sem]) ?_
      refine (catch_idle ⟨w.heap.size, 0, none⟩ ⟨w.heap.size + 1, 0, none⟩ ⟨w.heap.size + 1 + 1, 0, none⟩ _).mono ?_
      rintro e u' w'' ⟨rfl, rfl, rfl⟩
      simp [Leaves, settle, results, Tryd.results7, go_sem, d2, d3, d4]
      exact HPOH.out
    · have HU3 : Hid (progS (lst s) = ([], x, (tks T j).p)) := hid (by rw [HU2.out, hr])
      have HB2 := hid (HD2.out.grown hg3 (by simp; omega))
      have HB3 := hid (HD3.out.grown hg3 (by simp; omega))
      have HB4 := hid (HD4.out.grown hg3 (by simp; omega))
      have HW3 : Hid (Below w.heap.size w w3) := hid (HDW.out.grown hg3 (by omega) (by intro g e; simp at e; omega))
      unfold Gone at hg
      subst hg
      clear h3 hr hg3 HD2 HD3 HD4 DR HDW HW
      show bodyPostD _ _ _ _ _ _
      refine leaves_cons (f := 12) (args := #[.pointer (some ⟨w.heap.size, 0, none⟩), .pointer (some ⟨w.heap.size + 1, 0, none⟩), .pointer (some ⟨w.heap.size + 1 + 1, 0, none⟩)]) (by simp) (by simp [go_sem]) ?_
      refine (catch_panic w.heap.size (w.heap.size + 1) (w.heap.size + 1 + 1) _ _ _ _ _ [] _ HB2.out HB3.out HB4.out (by omega) (by omega) (by omega)).mono ?_
      rintro e u' w'' ⟨rfl, rfl, h4⟩
      have d2 := h4.p.c
      have d3 := h4.q.c
      have d4 := h4.r.c
      rw [HU3.out]
      have hz3 := HW3.out.size
      have HPO : ProgOut w ([], x, (tks T j).p) (.returned (.tuple #[.agg #[.slice none 0 0], .int .i64 (x : Int), .int .i64 ((tks T j).p : Int)])) w'' := ⟨_, rfl, pg_nil _ _, ⟨h4.os.trans HW3.out.os, h4.tape.trans HW3.out.tape, h4.output.trans HW3.out.output, Nat.le_trans hz3 h4.size, fun b hb => (h4.block b (by omega) (by omega) (by omega) (by omega)).trans (HW3.out.block b hb)⟩⟩
      have HPOH := hid HPO
      clear HPO h4
      simp [Leaves, settle, results, Tryd.results7, go_sem, d2, d3, d4]
      exact HPOH.out
  · have HU2 : Hid (progS (lst s) = ([], x, p)) := hid (by rw [HU.out, if_pos hx])
    have hxi : ((x : Int) == 0) = false := by simp; omega
    clear HU HO hs
    go_enter_defers Tryd.func7, Tryd.ntmps7
    go_wp2_with fail
    refine (HL.out _).mono ?_
    rintro e w1 ⟨v, rfl, hown, hb1⟩
    have B2 : Box1 w1 w.heap.size (.slice none 0 0) := (((Box1.new w (.slice none 0 0) 25).alloc _).alloc _).keep hb1
    have B3 : Box1 w1 (w.heap.size + 1) (.int .i64 0) := by have := ((Box1.new (w.alloc (.cells #[.slice none 0 0] 25)) (.int .i64 0) 26).alloc (.cells #[.int .i64 0] 3)).keep hb1; rw [asize] at this; exact this
    have B4 : Box1 w1 (w.heap.size + 1 + 1) (.int .i64 0) := by have := (Box1.new ((w.alloc (.cells #[.slice none 0 0] 25)).alloc (.cells #[.int .i64 0] 26)) (.int .i64 0) 3).keep hb1; rw [asize, asize] at this; exact this
    have c2 := B2.c
    have c3 := B3.c
    have c4 := B4.c
    have f2 := B2.f
    have f3 := B3.f
    have f4 := B4.f
    have l2 := B2.lt
    have l3 := B3.lt
    have l4 := B4.lt
    have HW := hid (show Below w.heap.size w w1 from below_call (by exact (((Below.refl _ _).alloc (Nat.le_refl _) _).alloc (by simp) _).alloc (by simp; omega) _) hb1 (by simp; omega))
    have HB := hid B2
    have HB3 := hid B3
    have HB4 := hid B4
    clear B2 B3 B4 hown hb1
    go_wp2_with fail
    go_region
    go_wp2
    have E2 := ((((HB.out.other (a := ⟨w.heap.size + 1, 0, none⟩) (by simp) (.int .i64 (x : Int))).other (a := ⟨w.heap.size + 1 + 1, 0, none⟩) (by simp; omega) (.int .i64 (p : Int))).set (.slice none 0 0)).other (a := ⟨w.heap.size + 1, 0, none⟩) (by simp) (.int .i64 (x : Int))).other (a := ⟨w.heap.size + 1 + 1, 0, none⟩) (by simp; omega) (.int .i64 (p : Int))
    have E3 := ((((HB3.out.set (.int .i64 (x : Int))).other (a := ⟨w.heap.size + 1 + 1, 0, none⟩) (by simp) (.int .i64 (p : Int))).other (a := ⟨w.heap.size, 0, none⟩) (by simp) (.slice none 0 0)).set (.int .i64 (x : Int))).other (a := ⟨w.heap.size + 1 + 1, 0, none⟩) (by simp) (.int .i64 (p : Int))
    have E4 := ((((HB4.out.other (a := ⟨w.heap.size + 1, 0, none⟩) (by simp) (.int .i64 (x : Int))).set (.int .i64 (p : Int))).other (a := ⟨w.heap.size, 0, none⟩) (by simp; omega) (.slice none 0 0)).other (a := ⟨w.heap.size + 1, 0, none⟩) (by simp) (.int .i64 (x : Int))).set (.int .i64 (p : Int))
    have EW : Below w.heap.size w (((((w1.setCell ⟨w.heap.size + 1, 0, none⟩ (.int .i64 (x : Int))).setCell ⟨w.heap.size + 1 + 1, 0, none⟩ (.int .i64 (p : Int))).setCell ⟨w.heap.size, 0, none⟩ (.slice none 0 0)).setCell ⟨w.heap.size + 1, 0, none⟩ (.int .i64 (x : Int))).setCell ⟨w.heap.size + 1 + 1, 0, none⟩ (.int .i64 (p : Int))).drew := ((((((HW.out.setCell (by simp) _).setCell (by simp; omega) _).setCell (by simp) _).setCell (by simp) _).setCell (by simp; omega) _).drew)
    have E5 := E2.drew
    have E6 := E3.drew
    have E7 := E4.drew
    clear E2 E3 E4 c2 c3 c4 f2 f3 f4 HB HB3 HB4
    generalize (((((w1.setCell ⟨w.heap.size + 1, 0, none⟩ (.int .i64 (x : Int))).setCell ⟨w.heap.size + 1 + 1, 0, none⟩ (.int .i64 (p : Int))).setCell ⟨w.heap.size, 0, none⟩ (.slice none 0 0)).setCell ⟨w.heap.size + 1, 0, none⟩ (.int .i64 (x : Int))).setCell ⟨w.heap.size + 1 + 1, 0, none⟩ (.int .i64 (p : Int))).drew = W at *
    have d2 := E5.c
    have d3 := E6.c
    have d4 := E7.c
    rw [HU2.out]
    have HPO : ProgOut w ([], x, p) (.returned (.tuple #[.agg #[.slice none 0 0], .int .i64 (x : Int), .int .i64 (p : Int)])) W := ⟨_, rfl, pg_nil _ _, EW⟩
    have HPOH := hid HPO
    clear HPO
    simp [bodyPostD, Leaves, settle, results, Tryd.results7, go_sem, d2, d3, d4]
    exact HPOH.out
end Go.Proofs.YtjofhaakkleecaaDoor
