/-
  The document's example of linear problems.
-/
import Derived.Test.YtmnlggmdomcajaaGreatL14
import Derived.Test.YtmnlggmdomcajaaGreatL18
import Derived.Test.YtmnlggmdomcajaaGreatVD
namespace Go.Proofs.YtmnlggmdomcajaaGreat
open Go.RowKit Lm
set_option linter.unusedSimpArgs false
set_option linter.unusedVariables false
set_option maxRecDepth 100000

/-- What is known in the example: quotients, rows of them, whole numbers that were laid as rows. -/
structure VZ (U W : World) (KR : List (Value × Rat)) (RR : List (Value × List Rat)) (KZ : List (Nat × Int)) : Prop where
  r : ∀ p ∈ KR, RArg W p.1 6 p.2
  rr : ∀ p ∈ RR, QSl W p.1 6 p.2
  z : ∀ p ∈ KZ, ZRow W p.1 0 [p.2]
  bl : Below U.heap.size U W
section
variable {U W W' : World} {KR : List (Value × Rat)} {RR : List (Value × List Rat)} {KZ : List (Nat × Int)}
theorem VZ.step (E : VZ U W KR RR KZ) (hb : Below W.heap.size W W') : VZ U W' KR RR KZ :=
  ⟨fun p hp => (E.r p hp).below hb, fun p hp => (E.rr p hp).below hb, fun p hp => (E.z p hp).below hb, below_call E.bl hb E.bl.size⟩
theorem VZ.drew (E : VZ U W KR RR KZ) : VZ U W.drew KR RR KZ := E.step (Below.refl _ _).drew
theorem VZ.alloc (E : VZ U W KR RR KZ) (o : Obj) : VZ U (W.alloc o) KR RR KZ := E.step ((Below.refl _ _).alloc (Nat.le_refl _) o)
theorem VZ.allocZ {g : Nat} {z : Int} (E : VZ U W KR RR KZ) (hg : g = W.heap.size) : VZ U (W.alloc (.cells #[.int .i64 z] 2)) KR RR ((g, z) :: KZ) := by
  have E' := E.alloc (.cells #[.int .i64 z] 2)
  refine ⟨E'.r, E'.rr, fun p hp => ?_, E'.bl⟩
  rcases List.mem_cons.1 hp with rfl | hp
  · subst hg
    have h := heap_alloc_new W (.cells #[.int .i64 z] 2)
    refine ⟨(Array.getElem?_eq_some_iff.1 h).1, fun i hi => ?_⟩
    simp at hi
    subst hi
    rw [cell_of_row _ _ _ _ _ _ h]
    rfl
  · exact E'.z p hp
theorem VZ.allocZ0 {z : Int} (E : VZ U W KR RR KZ) : VZ U (W.alloc (.cells #[.int .i64 z] 2)) KR RR ((W.heap.size, z) :: KZ) := E.allocZ rfl
theorem VZ.allocZ0d {z : Int} (E : VZ U W.drew KR RR KZ) : VZ U (W.drew.alloc (.cells #[.int .i64 z] 2)) KR RR ((W.heap.size, z) :: KZ) := E.allocZ rfl
theorem VZ.allocZ1 {z : Int} {o : Obj} (E : VZ U (W.alloc o) KR RR KZ) : VZ U ((W.alloc o).alloc (.cells #[.int .i64 z] 2)) KR RR ((W.heap.size + 1, z) :: KZ) := E.allocZ (by simp)
theorem VZ.allocZ1d {z : Int} {o : Obj} (E : VZ U (W.drew.alloc o) KR RR KZ) : VZ U ((W.drew.alloc o).alloc (.cells #[.int .i64 z] 2)) KR RR ((W.heap.size + 1, z) :: KZ) := E.allocZ (by simp)
theorem vz_ofRat (E : VZ U W KR RR KZ) (z : Int) (h1 : -9223372036854775808 ≤ z) (h2 : z ≤ 9223372036854775807) :
    Calls Tryz.prog 35 #[.int .i64 z] W fun e w' => ∃ n1 a1 k1 c1 n2 a2 k2 c2, e = .returned (.agg #[.bool n1, .slice a1 k1 c1, .bool n2, .slice a2 k2 c2]) ∧ VZ U w' ((.agg #[.bool n1, .slice a1 k1 c1, .bool n2, .slice a2 k2 c2], (z : Rat)) :: KR) RR KZ := by
  refine (ofRat_any W z h1 h2).mono ?_
  rintro e w' ⟨n1, a1, k1, c1, n2, a2, k2, c2, rfl, hI, hb⟩
  have E' := E.step hb
  refine ⟨n1, a1, k1, c1, n2, a2, k2, c2, rfl, fun p hp => ?_, E'.rr, E'.z, E'.bl⟩
  rcases List.mem_cons.1 hp with rfl | hp
  · exact (hI.mono (Nat.le_refl _) (show 2 ≤ 6 by omega)).arg
  · exact E'.r p hp
theorem vz_row {b : Nat} {z : Int} (E : VZ U W KR RR KZ) (hz : (b, z) ∈ KZ) (h1 : -9223372036854775808 ≤ z) (h2 : z ≤ 9223372036854775807) :
    Calls Tryz.prog 36 #[.slice (some ⟨b, 0, none⟩) 1 1] W fun e w' => ∃ ro rc, e = .returned (.slice ro 1 rc) ∧ VZ U w' KR ((.slice ro 1 rc, ratsOf [z]) :: RR) KZ := by
  refine (row5_any W b 0 1 1 [z] rfl (by omega) (fun y hy => by simp at hy; subst hy; exact ⟨h1, h2⟩) (E.z _ hz)).mono ?_
  rintro e w' ⟨ro, rc, rfl, hO, hb⟩
  have E' := E.step hb
  refine ⟨ro, rc, rfl, E'.r, fun p hp => ?_, E'.z, E'.bl⟩
  rcases List.mem_cons.1 hp with rfl | hp
  · exact hO.qsl
  · exact E'.rr p hp
theorem vz_holds {p : LPd} {a : Ansd} {b : Bool} (E : VZ U W KR RR KZ) (hp : p.At U) (h1 : (.agg #[.bool a.n1, .slice a.a1 a.k1 a.c1, .bool a.n2, .slice a.a2 a.k2 a.c2], a.V) ∈ KR) (h2 : (.slice a.xo a.kx a.cx, a.X) ∈ RR) (h3 : (.slice a.yo a.ky a.cy, a.Y) ∈ RR) (h4 : a.ro = none ∧ a.kr = 0 ∧ a.cr = 0 ∧ a.R = []) (hb : holdsB p a p.n.toNat = b) :
    Calls Tryz.prog 31 #[.agg #[.int .i64 p.n, .slice p.ao p.ka p.ca, .slice p.bo p.kb p.cb, .slice p.co p.kc p.cc], .agg #[.int .i64 a.kd, .bool a.n1, .slice a.a1 a.k1 a.c1, .bool a.n2, .slice a.a2 a.k2 a.c2, .slice a.xo a.kx a.cx, .slice a.yo a.ky a.cy, .slice a.ro a.kr a.cr]] W fun e w' => e = .returned (.bool b) ∧ VZ U w' KR RR KZ := by
  have hA : a.At W := ⟨E.r _ h1, E.rr _ h2, E.rr _ h3, by obtain ⟨e1, e2, e3, e4⟩ := h4; rw [e1, e2, e3, e4]; exact ⟨none, 0, 0, rfl, rfl, by simp, by unfold maxLen; omega, .inl rfl⟩⟩
  refine (holdsC_any W p a (hp.below E.bl) hA).mono ?_
  rintro e w' ⟨rfl, hw⟩
  exact ⟨by rw [hb], E.step hw⟩
end

theorem VZ.rebase {U W : World} {KR : List (Value × Rat)} {RR : List (Value × List Rat)} {KZ : List (Nat × Int)} (E : VZ U W KR RR KZ) : VZ W W KR RR KZ := ⟨E.r, E.rr, E.z, Below.refl _ _⟩
theorem VZ.drop {U W : World} {KR : List (Value × Rat)} {RR : List (Value × List Rat)} {KZ : List (Nat × Int)} (E : VZ U W KR RR KZ) : VZ U W [] [] [] := ⟨by simp, by simp, by simp, E.bl⟩
theorem VZ.none (W : World) : VZ W W [] [] [] := ⟨by simp, by simp, by simp, Below.refl _ _⟩
/-- The answer that is told. -/
def ansE (z : Int) (n1 n2 : Bool) (a1 a2 xo yo : Option Addr) (k1 c1 k2 c2 cx cy : Nat) : Ansd := ⟨1, n1, a1, k1, c1, n2, a2, k2, c2, xo, 1, cx, yo, 1, cy, none, 0, 0, (z : Rat), ratsOf [z], ratsOf [1], []⟩
theorem holds_three3 (g cb cc : Nat) (bo co : Option Addr) (n1 n2 : Bool) (a1 a2 xo yo : Option Addr) (k1 c1 k2 c2 cx cy : Nat) : holdsB (⟨1, some ⟨g, 0, none⟩, 1, 1, bo, 1, cb, co, 1, cc, [ratsOf [1]], ratsOf [3], ratsOf [1]⟩ : LPd) (ansE 3 n1 n2 a1 a2 xo yo k1 c1 k2 c2 cx cy) 1 = true := by
  kernel_rfl
theorem holds_two2 (g cb cc : Nat) (bo co : Option Addr) (n1 n2 : Bool) (a1 a2 xo yo : Option Addr) (k1 c1 k2 c2 cx cy : Nat) : holdsB (⟨1, some ⟨g, 0, none⟩, 1, 1, bo, 1, cb, co, 1, cc, [ratsOf [1]], ratsOf [3], ratsOf [1]⟩ : LPd) (ansE 2 n1 n2 a1 a2 xo yo k1 c1 k2 c2 cx cy) 1 = false := by
  kernel_rfl

section
variable {U W W' : World} {KR : List (Value × Rat)} {RR : List (Value × List Rat)} {KZ : List (Nat × Int)} {Q : Ending → World → Prop}
theorem vz_ofRat_k {z : Int} (E : VZ U W KR RR KZ) (h1 : -9223372036854775808 ≤ z) (h2 : z ≤ 9223372036854775807) (hK : ∀ w' n1 a1 k1 c1 n2 a2 k2 c2, VZ U w' ((.agg #[.bool n1, .slice a1 k1 c1, .bool n2, .slice a2 k2 c2], (z : Rat)) :: KR) RR KZ → Q (.returned (.agg #[.bool n1, .slice a1 k1 c1, .bool n2, .slice a2 k2 c2])) w') : Calls Tryz.prog 35 #[.int .i64 z] W Q := by
  refine (vz_ofRat E z h1 h2).mono ?_
  rintro e w' ⟨n1, a1, k1, c1, n2, a2, k2, c2, rfl, E'⟩
  exact hK w' n1 a1 k1 c1 n2 a2 k2 c2 E'
theorem vz_row_k {b : Nat} {z : Int} (E : VZ U W KR RR KZ) (hz : (b, z) ∈ KZ) (h1 : -9223372036854775808 ≤ z) (h2 : z ≤ 9223372036854775807) (hK : ∀ w' ro rc, VZ U w' KR ((.slice ro 1 rc, ratsOf [z]) :: RR) KZ → Q (.returned (.slice ro 1 rc)) w') : Calls Tryz.prog 36 #[.slice (some ⟨b, 0, none⟩) 1 1] W Q := by
  refine (vz_row E hz h1 h2).mono ?_
  rintro e w' ⟨ro, rc, rfl, E'⟩
  exact hK w' ro rc E'
theorem vz_holds_k {g cb cc : Nat} {bo co : Option Addr} {n1 n2 : Bool} {a1 a2 xo yo : Option Addr} {k1 c1 k2 c2 cx cy : Nat} (z : Int) (b : Bool) (hp : LPd.At (⟨1, some ⟨g, 0, none⟩, 1, 1, bo, 1, cb, co, 1, cc, [ratsOf [1]], ratsOf [3], ratsOf [1]⟩ : LPd) U) (hb : ∀ (n1 n2 : Bool) (a1 a2 xo yo : Option Addr) (k1 c1 k2 c2 cx cy : Nat), holdsB (⟨1, some ⟨g, 0, none⟩, 1, 1, bo, 1, cb, co, 1, cc, [ratsOf [1]], ratsOf [3], ratsOf [1]⟩ : LPd) (ansE z n1 n2 a1 a2 xo yo k1 c1 k2 c2 cx cy) 1 = b) (E : VZ U W KR RR KZ) (h1 : (.agg #[.bool n1, .slice a1 k1 c1, .bool n2, .slice a2 k2 c2], (z : Rat)) ∈ KR) (h2 : (.slice xo 1 cx, ratsOf [z]) ∈ RR) (h3 : (.slice yo 1 cy, ratsOf [1]) ∈ RR) (hK : ∀ w', VZ U w' KR RR KZ → Q (.returned (.bool b)) w') :
    Calls Tryz.prog 31 #[.agg #[.int .i64 1, .slice (some ⟨g, 0, none⟩) 1 1, .slice bo 1 cb, .slice co 1 cc], .agg #[.int .i64 1, .bool n1, .slice a1 k1 c1, .bool n2, .slice a2 k2 c2, .slice xo 1 cx, .slice yo 1 cy, .slice none 0 0]] W Q := by
  refine (vz_holds (p := (⟨1, some ⟨g, 0, none⟩, 1, 1, bo, 1, cb, co, 1, cc, [ratsOf [1]], ratsOf [3], ratsOf [1]⟩ : LPd)) (a := ansE z n1 n2 a1 a2 xo yo k1 c1 k2 c2 cx cy) (b := b) E hp h1 h2 h3 ⟨rfl, rfl, rfl, rfl⟩ (hb _ _ _ _ _ _ _ _ _ _ _ _)).mono ?_
  rintro e w' ⟨rfl, E'⟩
  exact hK w' E'
theorem vz_holds3_k {g cb cc : Nat} {bo co : Option Addr} {n1 n2 : Bool} {a1 a2 xo yo : Option Addr} {k1 c1 k2 c2 cx cy : Nat} (hp : LPd.At (⟨1, some ⟨g, 0, none⟩, 1, 1, bo, 1, cb, co, 1, cc, [ratsOf [1]], ratsOf [3], ratsOf [1]⟩ : LPd) U) (E : VZ U W KR RR KZ) (h1 : (.agg #[.bool n1, .slice a1 k1 c1, .bool n2, .slice a2 k2 c2], ((3 : Int) : Rat)) ∈ KR) (h2 : (.slice xo 1 cx, ratsOf [3]) ∈ RR) (h3 : (.slice yo 1 cy, ratsOf [1]) ∈ RR) (hK : ∀ w', VZ U w' KR RR KZ → Q (.returned (.bool true)) w') :
    Calls Tryz.prog 31 #[.agg #[.int .i64 1, .slice (some ⟨g, 0, none⟩) 1 1, .slice bo 1 cb, .slice co 1 cc], .agg #[.int .i64 1, .bool n1, .slice a1 k1 c1, .bool n2, .slice a2 k2 c2, .slice xo 1 cx, .slice yo 1 cy, .slice none 0 0]] W Q :=
  vz_holds_k 3 true hp (fun _ _ _ _ _ _ _ _ _ _ _ _ => holds_three3 _ _ _ _ _ _ _ _ _ _ _ _ _ _ _ _ _) E h1 h2 h3 hK
theorem vz_holds2_k {g cb cc : Nat} {bo co : Option Addr} {n1 n2 : Bool} {a1 a2 xo yo : Option Addr} {k1 c1 k2 c2 cx cy : Nat} (hp : LPd.At (⟨1, some ⟨g, 0, none⟩, 1, 1, bo, 1, cb, co, 1, cc, [ratsOf [1]], ratsOf [3], ratsOf [1]⟩ : LPd) U) (E : VZ U W KR RR KZ) (h1 : (.agg #[.bool n1, .slice a1 k1 c1, .bool n2, .slice a2 k2 c2], ((2 : Int) : Rat)) ∈ KR) (h2 : (.slice xo 1 cx, ratsOf [2]) ∈ RR) (h3 : (.slice yo 1 cy, ratsOf [1]) ∈ RR) (hK : ∀ w', VZ U w' KR RR KZ → Q (.returned (.bool false)) w') :
    Calls Tryz.prog 31 #[.agg #[.int .i64 1, .slice (some ⟨g, 0, none⟩) 1 1, .slice bo 1 cb, .slice co 1 cc], .agg #[.int .i64 1, .bool n1, .slice a1 k1 c1, .bool n2, .slice a2 k2 c2, .slice xo 1 cx, .slice yo 1 cy, .slice none 0 0]] W Q :=
  vz_holds_k 2 false hp (fun _ _ _ _ _ _ _ _ _ _ _ _ => holds_two2 _ _ _ _ _ _ _ _ _ _ _ _ _ _ _ _ _) E h1 h2 h3 hK
theorem keepE {g : Nat} {x0 x1 x2 x3 : Value} (bL : BoxL U g x0 x1 x2 x3) (E : VZ U W KR RR KZ) : W.cell? ⟨g, 0, none⟩ = some x0 ∧ W.cell? ⟨g, 1, none⟩ = some x1 ∧ W.cell? ⟨g, 2, none⟩ = some x2 ∧ W.cell? ⟨g, 3, none⟩ = some x3 := (bL.keep E.bl).c
end

set_option maxHeartbeats 25600000 in
theorem awake5_any (w : World) : Calls Tryz.prog 26 #[] w fun e w' => e = .returned (.bool true) ∧ Below w.heap.size w w' := by
  have E0 := (VZ.none w).allocZ (z := 1) (g := w.heap.size) rfl
  go_enter Tryz.func26, Tryz.ntmps26
  go_wp2_with fail
  refine (vz_row E0 (.head _) (by omega) (by omega)).mono ?_
  rintro e w1 ⟨ro1, rc1, rfl, E1⟩
  have HW1 := hid (E1.alloc (.cells #[.slice ro1 1 rc1] 41)).bl
  have HQ1 := hid (qtab1 (n := 6) (heap_alloc_new w1 (.cells #[.slice ro1 1 rc1] 41)) ((E1.alloc (.cells #[.slice ro1 1 rc1] 41)).rr _ (.head _)))
  have E2 := (E1.alloc (.cells #[.slice ro1 1 rc1] 41)).rebase.allocZ (z := 3) (g := w1.heap.size + 1) (by simp)
  clear E0 E1
  go_wp2_with fail
  refine (vz_row E2 (.head _) (by omega) (by omega)).mono ?_
  rintro e w2 ⟨ro2, rc2, rfl, E3⟩
  have E4 := E3.allocZ (z := 1) (g := w2.heap.size) rfl
  clear E2 E3
  go_wp2_with fail
  refine (vz_row E4 (.head _) (by omega) (by omega)).mono ?_
  rintro e w3 ⟨ro3, rc3, rfl, E5⟩
  have E6 := E5.alloc (.cells #[.int .i64 1, .slice (some ⟨w1.heap.size, 0, none⟩) 1 1, .slice ro2 1 rc2, .slice ro3 1 rc3] 43)
  have HP := hid (show LPd.At (⟨1, some ⟨w1.heap.size, 0, none⟩, 1, 1, ro2, 1, rc2, ro3, 1, rc3, [ratsOf [1]], ratsOf [3], ratsOf [1]⟩ : LPd) (w3.alloc (.cells #[.int .i64 1, .slice (some ⟨w1.heap.size, 0, none⟩) 1 1, .slice ro2 1 rc2, .slice ro3 1 rc3] 43)) from
    ⟨rfl, HQ1.out.below E6.bl, E6.rr _ (.tail _ (.head _)), E6.rr _ (.head _)⟩)
  have HB := hid (below_call HW1.out E6.bl HW1.out.size)
  have bL : BoxL (w3.alloc (.cells #[.int .i64 1, .slice (some ⟨w1.heap.size, 0, none⟩) 1 1, .slice ro2 1 rc2, .slice ro3 1 rc3] 43)) w3.heap.size (.int .i64 1) (.slice (some ⟨w1.heap.size, 0, none⟩) 1 1) (.slice ro2 1 rc2) (.slice ro3 1 rc3) := BoxL.new _ _ _ _ _ _ rfl
  have E := E6.rebase
  clear E6 E5 E4 HQ1 HW1
  go_wp2_with fail
  generalize w3.alloc (.cells #[.int .i64 1, .slice (some ⟨w1.heap.size, 0, none⟩) 1 1, .slice ro2 1 rc2, .slice ro3 1 rc3] 43) = WB at *
  go_region_held3 (fun W' => W'.cell? ⟨w3.heap.size, 0, none⟩ = some (.int .i64 1) ∧ W'.cell? ⟨w3.heap.size, 1, none⟩ = some (.slice (some ⟨w1.heap.size, 0, none⟩) 1 1) ∧ W'.cell? ⟨w3.heap.size, 2, none⟩ = some (.slice ro2 1 rc2) ∧ W'.cell? ⟨w3.heap.size, 3, none⟩ = some (.slice ro3 1 rc3)) ((show _ ∧ _ ∧ _ ∧ _; apply keepE bL; (focus ((repeat (first | with_reducible exact E | with_reducible apply VZ.allocZ1d | with_reducible apply VZ.allocZ0d | with_reducible apply VZ.allocZ1 | with_reducible apply VZ.allocZ0 | with_reducible apply VZ.drew)); done)))) (first
    | (go_at_call 35; apply vz_ofRat_k; (focus ((repeat (first | with_reducible exact E | with_reducible apply VZ.allocZ1d | with_reducible apply VZ.allocZ0d | with_reducible apply VZ.allocZ1 | with_reducible apply VZ.allocZ0 | with_reducible apply VZ.drew)); done)); omega; omega; intro wn n1 a1 k1 c1 n2 a2 k2 c2 En; clear E; have E := En; clear En)
    | (go_at_call 36; apply vz_row_k; (focus ((repeat (first | with_reducible exact E | with_reducible apply VZ.allocZ1d | with_reducible apply VZ.allocZ0d | with_reducible apply VZ.allocZ1 | with_reducible apply VZ.allocZ0 | with_reducible apply VZ.drew)); done)); (focus ((with_reducible repeat (first | exact List.mem_cons_self | apply List.mem_cons_of_mem)); done)); omega; omega; intro wn ro rc En; clear E; have E := En; clear En)
    | (go_at_call 31; apply vz_holds3_k HP.out; (focus ((repeat (first | with_reducible exact E | with_reducible apply VZ.allocZ1d | with_reducible apply VZ.allocZ0d | with_reducible apply VZ.allocZ1 | with_reducible apply VZ.allocZ0 | with_reducible apply VZ.drew)); done)); (focus ((with_reducible repeat (first | exact List.mem_cons_self | apply List.mem_cons_of_mem)); done)); (focus ((with_reducible repeat (first | exact List.mem_cons_self | apply List.mem_cons_of_mem)); done)); (focus ((with_reducible repeat (first | exact List.mem_cons_self | apply List.mem_cons_of_mem)); done)); intro wn En; clear E; have E := En.drop; clear En)
    | (go_at_call 31; apply vz_holds2_k HP.out; (focus ((repeat (first | with_reducible exact E | with_reducible apply VZ.allocZ1d | with_reducible apply VZ.allocZ0d | with_reducible apply VZ.allocZ1 | with_reducible apply VZ.allocZ0 | with_reducible apply VZ.drew)); done)); (focus ((with_reducible repeat (first | exact List.mem_cons_self | apply List.mem_cons_of_mem)); done)); (focus ((with_reducible repeat (first | exact List.mem_cons_self | apply List.mem_cons_of_mem)); done)); (focus ((with_reducible repeat (first | exact List.mem_cons_self | apply List.mem_cons_of_mem)); done)); intro wn En; clear E; have E := En; clear En))
  all_goals
    have HR := hid (below_call HB.out E.bl HB.out.size)
    clear E
    go_wp2
    go_ret
    exact ⟨rfl, HR.out⟩

end Go.Proofs.YtmnlggmdomcajaaGreat
