/-
  Walks: a number's digits.
-/
import Derived.Test.YtjofhaakkleecaaDoorQ37
import Derived.Test.YtjofhaakkleecaaDoorQN
import Derived.Laws.BytesArg
namespace Go.Proofs.YtjofhaakkleecaaDoor
open Go.RowKit Lx
set_option linter.unusedSimpArgs false
set_option linter.unusedVariables false
set_option maxRecDepth 100000

theorem str_app (a b : List Nat) : str (a ++ b) = str a ++ str b := by
  unfold str
  rw [List.map_append]
  apply ByteArray.ext
  simp [ByteArray.data_append]
theorem size_str (l : List Nat) : (str l).size = l.length := by simp [str, ByteArray.size]
theorem conv_at (W : World) (g : Nat) (n : Nat) (hc : W.cell? ⟨g, 0, none⟩ = some (.int .u8 (n : Int))) : (convert 39 9 (.slice (some ⟨g, 0, none⟩) 1 1)).run Tryd.prog W = .ok (.string (str [n])) W := by
  have h1 := run_convert_bytes_arg (P := Tryd.prog) (w := W) 39 5 Tryd.underlying39 Tryd.underlying5 g 0 1 1 [(n : Int)] rfl (fun i hi => by
    obtain rfl : i = 0 := by omega
    rw [show 0 + 0 = 0 from rfl, hc]
    rfl) 9 Tryd.underlying9
  rw [h1]
  rfl
theorem conv_new (W : World) (x : Int) (n : Nat) (hx : x = (n : Int)) : (convert 39 9 (.slice (some ⟨W.heap.size, 0, none⟩) 1 1)).run Tryd.prog (W.alloc (.cells #[.int .u8 x] 5)) = .ok (.string (str [n])) (W.alloc (.cells #[.int .u8 x] 5)) := by
  subst hx
  refine conv_at _ _ _ ?_
  rw [cell_of_row (W.alloc (.cells #[.int .u8 (n : Int)] 5)) W.heap.size 0 #[.int .u8 (n : Int)] 5 (0, 0) (heap_alloc_new W _)]
  rfl
theorem cell_new0 (w : World) (x : Value) (T : TypeId) : (w.alloc (.cells #[x] T)).cell? ⟨w.heap.size, 0, none⟩ = some x := by
  rw [cell_of_row (w.alloc (.cells #[x] T)) w.heap.size 0 #[x] T (0, 0) (heap_alloc_new w _)]
  rfl
theorem conv_in {V w1 : World} {B : Nat} (g : Nat) (x : Int) (n : Nat) (hx : x = (n : Int)) (hB : g < B) (hv : V.cell? ⟨g, 0, none⟩ = some (.int .u8 x)) (hb : Below B V w1) : (convert 39 9 (.slice (some ⟨g, 0, none⟩) 1 1)).run Tryd.prog w1 = .ok (.string (str [n])) w1 := by
  subst hx
  refine conv_at _ _ _ ?_
  rw [hb.cell (p := ⟨g, 0, none⟩) hB]
  exact hv

theorem digits_low (w : World) (n : Nat) (hn : n < 10) : Calls Tryd.prog 17 #[.int .i64 (n : Int)] w fun e w' => e = .returned (.string (str (dgN n))) ∧ Below w.heap.size w w' := by
  have h1 : (n : Int) < 10 := by omega
  have hw1 : IntKind.i64.wrap (48 + (n : Int)) = 48 + (n : Int) := by rw [IntKind.wrap_i64]; omega
  have hw2 : IntKind.u8.wrap (48 + (n : Int)) = 48 + (n : Int) := by rw [IntKind.wrap_u8]; omega
  have hc := conv_new w (48 + (n : Int)) (48 + n) (by omega)
  have HD : Hid (str (dgN n) = str [48 + n]) := hid (by unfold dgN; rw [if_pos hn])
  go_enter Tryd.func17, Tryd.ntmps17
  go_wp2
  go_ret
  exact ⟨by rw [HD.out]; rfl, (Below.refl _ _).alloc (Nat.le_refl _) _⟩
set_option maxHeartbeats 1600000 in
theorem digits_step (w : World) (n : Nat) (hn : n < 1000) (h10 : ¬ n < 10) (hd : ∀ W, Calls Tryd.prog 17 #[.int .i64 ((n / 10 : Nat) : Int)] W fun e w' => e = .returned (.string (str (dgN (n / 10)))) ∧ Below W.heap.size W w') (hl : (dgN (n / 10)).length ≤ 3) :
    Calls Tryd.prog 17 #[.int .i64 (n : Int)] w fun e w' => e = .returned (.string (str (dgN n))) ∧ Below w.heap.size w w' := by
  have h1 : ¬ (n : Int) < 10 := by omega
  have HD : Hid (str (dgN n) = str (dgN (n / 10)) ++ str [48 + n % 10]) := hid (by rw [dgN_step h10 hn, str_app])
  have hq1 : Int.tdiv (n : Int) 10 = ((n / 10 : Nat) : Int) := by rw [Int.tdiv_eq_ediv_of_nonneg (by omega)]; omega
  have hq2 : Int.tmod (n : Int) 10 = ((n % 10 : Nat) : Int) := by rw [Int.tmod_eq_emod_of_nonneg (by omega)]; omega
  have hm9 : n % 10 ≤ 9 := by omega
  have hq99 : n / 10 ≤ 99 := by omega
  have hz1 : (str (dgN (n / 10))).size = (dgN (n / 10)).length := size_str _
  have hz2 : (str [48 + n % 10]).size = 1 := size_str _
  generalize (dgN (n / 10)).length = k at *
  generalize n / 10 = q at *
  generalize n % 10 = m at *
  have hw0 : IntKind.i64.wrap ((q : Int)) = (q : Int) := by rw [IntKind.wrap_i64]; omega
  have hw1 : IntKind.i64.wrap (48 + (m : Int)) = 48 + (m : Int) := by rw [IntKind.wrap_i64]; omega
  have hw2 : IntKind.u8.wrap (48 + (m : Int)) = 48 + (m : Int) := by rw [IntKind.wrap_u8]; omega
  have hk1 : ¬ 9223372036854775807 < k + 1 := by omega
  have hcA := conv_new w (48 + (m : Int)) (48 + m) (by omega)
  have hcB := conv_at (World.drew (w.alloc (.cells #[.int .u8 (48 + (m : Int))] 5))) w.heap.size (48 + m) (by rw [show ((48 + m : Nat) : Int) = 48 + (m : Int) by omega]; exact cell_new0 w _ _)
  have HDD := hid hd
  clear hd
  go_enter Tryd.func17, Tryd.ntmps17
  go_wp2_with fail
  go_region_with (first
    | (go_at_call 17; (with_reducible refine (HDD.out w.drew).mono ?_); rintro e w1 ⟨rfl, hb1⟩; have hc1 := conv_new w1 (48 + (m : Int)) (48 + m) (by omega))
    | (go_at_call 17; refine (HDD.out (World.drew (w.alloc (.cells #[.int .u8 (48 + (m : Int))] 5)))).mono ?_; rintro e w1 ⟨rfl, hb1⟩; have hc2 := conv_in (V := World.drew (w.alloc (.cells #[.int .u8 (48 + (m : Int))] 5))) w.heap.size (48 + (m : Int)) (48 + m) (by omega) (by simp) (cell_new0 w _ _) hb1))
  all_goals
    have HB1 := hid hb1
    clear hb1 hcA hcB
    go_wp2
    go_ret
    refine ⟨by rw [HD.out]; rfl, ?_⟩
    first
      | exact below_call ((Below.refl w.heap.size w).alloc (Nat.le_refl _) (.cells #[.int .u8 (48 + (m : Int))] 5)).drew HB1.out (by simp)
      | exact (below_call (Below.refl w.heap.size w).drew HB1.out (Nat.le_refl _)).alloc (below_call (Below.refl w.heap.size w).drew HB1.out (Nat.le_refl _)).size _
theorem digits_any (w : World) (n : Nat) (hn : n < 256) : Calls Tryd.prog 17 #[.int .i64 (n : Int)] w fun e w' => e = .returned (.string (str (dgN n))) ∧ Below w.heap.size w w' := by
  have hl : ∀ k, k < 256 → (dgN k).length ≤ 3 := fun k hk => (dg_facts k hk).2.2.2.2.2
  by_cases h1 : n < 10
  · exact digits_low w n h1
  · refine digits_step w n (by omega) h1 (fun W => ?_) (hl _ (by omega))
    by_cases h2 : n / 10 < 10
    · exact digits_low W _ h2
    · exact digits_step W (n / 10) (by omega) h2 (fun V => digits_low V _ (by omega)) (hl _ (by omega))
end Go.Proofs.YtjofhaakkleecaaDoor
