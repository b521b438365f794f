/-
  Walks: the deferred closure; Prog.
-/
import Derived.Test.YtjofhaakkleecaaDoorQ21
import Derived.Defers
import Derived.Recover
namespace Go.Proofs.YtjofhaakkleecaaDoor
open Go.RowKit Lx
set_option linter.unusedSimpArgs false
set_option linter.unusedVariables false
set_option maxRecDepth 100000

/-- What the closure leaves behind a refusal: the named results, and new blocks. -/
structure Three (w : World) (bp bq br : Nat) (x a : Int) (w' : World) : Prop where
  os : w'.os = w.os
  tape : w'.tape = w.tape
  output : w'.output = w.output
  size : w.heap.size ≤ w'.heap.size
  p : Box1 w' bp (.slice none 0 0)
  q : Box1 w' bq (.int .i64 x)
  r : Box1 w' br (.int .i64 a)
  block : ∀ b, b < w.heap.size → b ≠ bp → b ≠ bq → b ≠ br → w'.heap[b]? = w.heap[b]?
theorem catch_idle (p q r : Addr) (w : World) :
    CallsD Tryd.prog 12 #[.pointer (some p), .pointer (some q), .pointer (some r)] .returning w fun e u' w' => e = .returned (.tuple #[]) ∧ u' = .returning ∧ w' = w := by
  refine callsD_of_wpS Tryd.func12 rfl fun c₀ cs hu => ?_
  apply wpS_seq
  apply wpS_region
  simp [wpOpsS, go_sem, recoverD, hu, Tryd.ntmps12, Exit.thenS]
  refine wpS_of_wp ?_
  have ht : (#[Value.pointer (some p), Value.pointer (some q), Value.pointer (some r)] ++ (Array.replicate 14 undef).setIfInBounds 3 Value.nilIface) = #[Value.pointer (some p), Value.pointer (some q), Value.pointer (some r), undef, undef, undef, Value.nilIface, undef, undef, undef, undef, undef, undef, undef, undef, undef, undef] := rfl
  rw [ht]
  go_wp2
  cases c₀
  simp_all [bodyPostS, results, Tryd.results12]
@[go_sem] theorem assert_ref (v : Value) (w : World) : (Instr.typeAssert (.iface 53 v) 20 53 true).run Tryd.prog w = .ok (.tuple #[v, .bool true]) w := by kernel_rfl
theorem catch_panic (bp bq br : Nat) (vp vq vr : Value) (x a : Int) (older : List PanicEntry) (w : World) (hp : Box1 w bp vp) (hq : Box1 w bq vq) (hr : Box1 w br vr) (h1 : bp ≠ bq) (h2 : bp ≠ br) (h3 : bq ≠ br) :
    CallsD Tryd.prog 12 #[.pointer (some ⟨bp, 0, none⟩), .pointer (some ⟨bq, 0, none⟩), .pointer (some ⟨br, 0, none⟩)] (.panicking ({ v := .iface 53 (.agg #[.int .i64 x, .int .i64 a]), recovered := false } :: older)) w fun e u' w' => e = .returned (.tuple #[]) ∧ u' = .panicking ({ v := .iface 53 (.agg #[.int .i64 x, .int .i64 a]), recovered := true } :: older) ∧ Three w bp bq br x a w' := by
  refine callsD_of_wpS Tryd.func12 rfl fun c₀ cs hu => ?_
  apply wpS_seq
  apply wpS_region
  simp [wpOpsS, go_sem, recoverD, hu, Tryd.ntmps12, Exit.thenS]
  refine wpS_of_wp ?_
  have ht : (#[Value.pointer (some ⟨bp, 0, none⟩), Value.pointer (some ⟨bq, 0, none⟩), Value.pointer (some ⟨br, 0, none⟩)] ++ (Array.replicate 14 undef).setIfInBounds 3 (.iface 53 (.agg #[.int .i64 x, .int .i64 a]))) = #[Value.pointer (some ⟨bp, 0, none⟩), Value.pointer (some ⟨bq, 0, none⟩), Value.pointer (some ⟨br, 0, none⟩), undef, undef, undef, .iface 53 (.agg #[.int .i64 x, .int .i64 a]), undef, undef, undef, undef, undef, undef, undef, undef, undef, undef] := rfl
  rw [ht]
  have c1 := hp.c
  have c2 := hq.c
  have c3 := hr.c
  have f1 := hp.f
  have f2 := hq.f
  have f3 := hr.f
  have l1 := hp.lt
  have l2 := hq.lt
  have l3 := hr.lt
  have n1 := Ne.symm h1
  have n2 := Ne.symm h2
  have n3 := Ne.symm h3
  go_wp2
  go_region
  go_wp2
  have hT : Three w bp bq br x a ((((w.setCell ⟨bp, 0, none⟩ (.slice none 0 0)).setCell ⟨bq, 0, none⟩ (.int .i64 x)).setCell ⟨br, 0, none⟩ (.int .i64 a)).alloc (.cells #[.int .i64 x, .int .i64 a] 53)).drew := by
    have b1 := ((hp.set (.slice none 0 0)).other (a := ⟨bq, 0, none⟩) h1 (.int .i64 x)).other (a := ⟨br, 0, none⟩) h2 (.int .i64 a)
    have b2 := ((hq.other (a := ⟨bp, 0, none⟩) n1 (.slice none 0 0)).set (.int .i64 x)).other (a := ⟨br, 0, none⟩) h3 (.int .i64 a)
    have b3 := ((hr.other (a := ⟨bp, 0, none⟩) n2 (.slice none 0 0)).other (a := ⟨bq, 0, none⟩) n3 (.int .i64 x)).set (.int .i64 a)
    refine ⟨rfl, rfl, rfl, by simp [World.setCell], (b1.alloc _).drew, (b2.alloc _).drew, (b3.alloc _).drew, fun b hb g1 g2 g3 => ?_⟩
    have e1 := Below.heap_alloc (((w.setCell ⟨bp, 0, none⟩ (.slice none 0 0)).setCell ⟨bq, 0, none⟩ (.int .i64 x)).setCell ⟨br, 0, none⟩ (.int .i64 a)) (.cells #[.int .i64 x, .int .i64 a] 53) b (by simp [World.setCell]; exact hb)
    exact e1.trans ((heap_setCell_other _ ⟨br, 0, none⟩ b _ g3).trans ((heap_setCell_other _ ⟨bq, 0, none⟩ b _ g2).trans (heap_setCell_other _ ⟨bp, 0, none⟩ b _ g1)))
  have HT := hid hT
  clear hT c1 c2 c3 f1 f2 f3 hp hq hr
  generalize ((((w.setCell ⟨bp, 0, none⟩ (.slice none 0 0)).setCell ⟨bq, 0, none⟩ (.int .i64 x)).setCell ⟨br, 0, none⟩ (.int .i64 a)).alloc (.cells #[.int .i64 x, .int .i64 a] 53)).drew = W at *
  simp [bodyPostS, results, Tryd.results12]
  exact HT.out
end Go.Proofs.YtjofhaakkleecaaDoor
