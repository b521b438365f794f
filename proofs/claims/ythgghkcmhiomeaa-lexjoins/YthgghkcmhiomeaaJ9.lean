/-
  Walks: the law LexLimits.
-/
import Derived.Test.YthgghkcmhiomeaaJ8
import Derived.Laws.BytesArg
import Derived.Laws.MakeOwn
namespace Go.Proofs.Ythgghkcmhiomeaa
open Go.RowKit Lx
set_option linter.unusedSimpArgs false
set_option linter.unusedVariables false
set_option maxRecDepth 100000

theorem str_append (a b : List Nat) : str (a ++ b) = str a ++ str b := by
  unfold str
  rw [List.map_append]
  apply ByteArray.ext
  simp [ByteArray.data_append]
theorem str_size (l : List Nat) : (str l).size = l.length := by simp [str, ByteArray.size]
theorem conv_one (W : World) (x : Int) (n : Nat) (hx : x = (n : Int)) : (convert 35 9 (.slice (some ⟨W.heap.size, 0, none⟩) 1 1)).run Try.prog (W.alloc (.cells #[.int .u8 x] 5)) = .ok (.string (str [n])) (W.alloc (.cells #[.int .u8 x] 5)) := by
  subst hx
  have h1 := run_convert_bytes_arg (P := Try.prog) (w := W.alloc (.cells #[.int .u8 (n : Int)] 5)) 35 5 Try.underlying35 Try.underlying5 W.heap.size 0 1 1 [(n : Int)] rfl (fun i hi => by
    obtain rfl : i = 0 := by omega
    rw [cell_of_row (W.alloc (.cells #[.int .u8 (n : Int)] 5)) W.heap.size 0 #[.int .u8 (n : Int)] 5 (0, 0) (heap_alloc_new W _)]
    rfl) 9 Try.underlying9
  rw [h1]
  rfl

theorem str_more (c k : Nat) : str (nmL c k) ++ ⟨#[122]⟩ = str (nmL c (k + 1)) := by
  have e : nmL c (k + 1) = nmL c k ++ [122] := by unfold nmL; rw [List.replicate_succ', List.cons_append]
  rw [e, str_append]; rfl
theorem str_more0 (d k : Nat) : str (dgL d k) ++ ⟨#[48]⟩ = str (dgL d (k + 1)) := by
  have e : dgL d (k + 1) = dgL d k ++ [48] := by unfold dgL; rw [List.replicate_succ', List.cons_append]
  rw [e, str_append]; rfl
theorem small_nm (c k : Nat) : ∀ x ∈ nmL c k, x < 256 := by
  intro x hx
  simp only [nmL, List.mem_cons, List.mem_replicate] at hx
  omega
theorem small_dg (d k : Nat) : ∀ x ∈ dgL d k, x < 256 := by
  intro x hx
  simp only [dgL, List.mem_cons, List.mem_replicate] at hx
  omega
theorem lex_str (W : World) (l : List Nat) (a : List Tk × Nat × Nat) (hl : ∀ x ∈ l, x < 256) (hn : l.length ≤ 1000000) (h : lexS l = a) : Calls Try.prog 8 #[.string (str l)] W (LexOut W a) := by
  have h1 := lex_any W (str l) (by rw [str_size]; omega)
  rw [lst_str hl, h] at h1
  exact h1
/-- What Lex tells of the six texts. -/
def Six (m : Nat) (s : ByteArray) (x : Nat) (p : Nat) : Prop := ∀ W, Calls Try.prog 8 #[.string s] W fun e w' => ∃ ao cap, e = .returned (.tuple #[.slice ao m cap, .int .i64 (x : Int), .int .i64 (p : Int)]) ∧ Below W.heap.size W w'
theorem six_mk {s : ByteArray} {a : List Tk × Nat × Nat} {m x p : Nat} (h : ∀ W, Calls Try.prog 8 #[.string s] W (LexOut W a)) (hm : a.1.length = m) (hx : a.2.1 = x) (hp : a.2.2 = p) : Six m s x p := by
  intro W
  refine (h W).mono ?_
  rintro e w' ⟨v, rfl, hO, hb⟩
  obtain ⟨ao, cap, rfl, -⟩ := hO.shape
  exact ⟨ao, cap, by rw [hm, hx, hp], hb⟩
theorem six_a (c d : Nat) : ∃ p, Six 3 (str (nmL c 15) ++ ⟨#[32]⟩ ++ str (dgL d 8)) 0 p := by
  have e : str (nmL c 15) ++ ⟨#[32]⟩ ++ str (dgL d 8) = str (nmL c 15 ++ 32 :: dgL d 8) := by
    rw [show nmL c 15 ++ 32 :: dgL d 8 = nmL c 15 ++ [32] ++ dgL d 8 by simp, str_append, str_append]; rfl
  rw [e]
  have h := lim_a c d
  exact ⟨_, six_mk (fun W => lex_str W _ _ (by
    intro x hx
    simp only [List.mem_append, List.mem_cons] at hx
    rcases hx with hx | rfl | hx
    · exact small_nm c 15 x hx
    · omega
    · exact small_dg d 8 x hx) (by simp [nm_len, dg_len]) rfl) h.1 h.2 rfl⟩
theorem six_b (c : Nat) : Six 0 (str (nmL c 16)) 2 0 := six_mk (fun W => lex_str W _ _ (small_nm c 16) (by simp [nm_len]) (lim_b c)) rfl rfl rfl
theorem six_c (d : Nat) : Six 0 (str (dgL d 9)) 2 0 := six_mk (fun W => lex_str W _ _ (small_dg d 9) (by simp [dg_len]) (lim_c d)) rfl rfl rfl
theorem six_d (d : Nat) : Six 0 (⟨#[59, 32, 48]⟩ ++ str (dgL d 8)) 2 2 := by
  have e : (⟨#[59, 32, 48]⟩ : ByteArray) ++ str (dgL d 8) = str ([59, 32, 48] ++ dgL d 8) := by rw [str_append]; rfl
  rw [e]
  exact six_mk (fun W => lex_str W _ _ (by
    intro x hx
    simp only [List.mem_append, List.mem_cons, List.not_mem_nil, or_false] at hx
    rcases hx with hx | hx
    · omega
    · exact small_dg d 8 x hx) (by simp [dg_len]) (lim_d d)) rfl rfl rfl
theorem six_e (c : Nat) : Six 0 (⟨#[59, 32, 55]⟩ ++ str (nmL c 15)) 3 2 := by
  have e : (⟨#[59, 32, 55]⟩ : ByteArray) ++ str (nmL c 15) = str ([59, 32, 55] ++ nmL c 15) := by rw [str_append]; rfl
  rw [e]
  exact six_mk (fun W => lex_str W _ _ (by
    intro x hx
    simp only [List.mem_append, List.mem_cons, List.not_mem_nil, or_false] at hx
    rcases hx with hx | hx
    · omega
    · exact small_nm c 15 x hx) (by simp [nm_len]) (lim_e c)) rfl rfl rfl
theorem six_f (s : ByteArray) (h : s.size = 8193) : Six 0 s 2 8192 := six_mk (a := ([], 2, 8192)) (fun W => by
  have h1 := lex_any W s (by omega)
  rw [lim_f (lst s) (by rw [lst_length, h])] at h1
  exact h1) rfl rfl rfl

theorem info8 : (Try.prog.info? 5).map (fun i => (i.zero, i.size, i.bytes)) = some (some (.int .u8 0), 1, 1) := by kernel_rfl
/-- A text of so many noughts. -/
theorem big_mk : ∃ (M : Array Value) (s : ByteArray), s.size = 8193 ∧
    (∀ W : World, (Instr.makeSlice 35 (.int .i64 8193) (.int .i64 8193)).run Try.prog W = .ok (.slice (some ⟨W.heap.size, 0, none⟩) 8193 8193) (W.alloc (.cells M 5))) ∧
    ∀ W : World, (convert 35 9 (.slice (some ⟨W.heap.size, 0, none⟩) 8193 8193)).run Try.prog (W.alloc (.cells M 5)) = .ok (.string s) (W.alloc (.cells M 5)) := by
  obtain ⟨i0, hi, hz0, hz1, hz2⟩ := info_parts info8
  obtain ⟨M, hM⟩ : ∃ M, M = madeCells (Value.int .u8 0).cells (((8193 : Nat) : Int).toNat * i0.size) := ⟨_, rfl⟩
  have hl : M.toList = List.replicate 8193 (Value.int .u8 0) := by
    have : (Value.int .u8 0).cells = #[.int .u8 0] := rfl
    rw [hM, hz1, this, Nat.mul_one, toList_madeCells_one]
    rfl
  refine ⟨M, strOfNums (List.replicate 8193 0), by rw [strOfNums_size, List.length_replicate], fun W => ?_, fun W => ?_⟩
  · have h := run_make (P := Try.prog) W 35 5 i0 (.int .u8 0) Try.underlying35 hi hz0 .i64 .i64 ((8193 : Nat) : Int) ((8193 : Nat) : Int) (by omega) (by omega) (by rw [hz2]; omega) (by omega)
    rw [← hM] at h
    simpa using h
  · exact run_convert_bytes_arg (P := Try.prog) (w := W.alloc (.cells M 5)) 35 5 Try.underlying35 Try.underlying5 W.heap.size 0 8193 8193 (List.replicate 8193 0) (List.length_replicate ..) (fun i hi => by
      rw [Nat.zero_add, cell_of_row (W.alloc (.cells M 5)) W.heap.size i M 5 (0, 0) (heap_alloc_new W _), ← Array.getElem?_toList, hl]
      rw [List.getElem?_replicate, if_pos hi, List.getD_eq_getElem?_getD, List.getElem?_replicate, if_pos hi]
      rfl) 9 Try.underlying9

set_option maxHeartbeats 3200000 in
theorem lexLimits_nat (w : World) (c d : Nat) (hc : c ≤ 255) (hd : d ≤ 255) :
    Calls Try.prog 6 #[.int .u8 (c : Int), .int .u8 (d : Int)] w fun e w' => e = .returned (.bool true) ∧ Below w.heap.size w w' := by
  have hci : (c : Int) ≤ 255 := by omega
  have hdi : (d : Int) ≤ 255 := by omega
  have hcv := fun (W : World) => conv_one W (97 + (c : Int) % 26) (97 + c % 26) (by omega)
  have hdv : ∀ o : Obj, (convert 35 9 (.slice (some ⟨w.heap.size + 1, 0, none⟩) 1 1)).run Try.prog ((w.alloc o).alloc (.cells #[.int .u8 (49 + (d : Int) % 9)] 5)) = .ok (.string (str [49 + d % 9])) ((w.alloc o).alloc (.cells #[.int .u8 (49 + (d : Int) % 9)] 5)) := fun o => by
    have h := conv_one (w.alloc o) (49 + (d : Int) % 9) (49 + d % 9) (by omega)
    rw [asize] at h
    exact h
  obtain ⟨M, sb, hsb, hmk, hbv⟩ := big_mk
  obtain ⟨pa, ha⟩ := six_a c d
  have HA := hid ha
  clear ha
  go_enter Try.func6, Try.ntmps6
  go_wp2
  clear hcv
  go_loop [5] (fun sv => ∃ k : Nat, k ≤ 15 ∧ sv = .string (str (nmL c k))) (fun sv => 16 - (match sv with | .string s => s.size | _ => 0))
  case atStart => exact ⟨0, by omega, rfl⟩
  case round =>
    obtain ⟨k, hk, rfl⟩ := hrel
    have hz : (str (nmL c k)).size = k + 1 := by rw [str_size, nm_len]
    have hzi : ((str (nmL c k)).size : Int) = (k : Int) + 1 := by omega
    by_cases hlt : k < 15
    · have hm := str_more c k
      have HMO := hid hm
      clear hm
      go_wp2
      refine ⟨⟨k + 1, by omega, by rw [HMO.out]⟩, ?_⟩
      rw [HMO.out]
      simp only [hz]
      have := str_size (nmL c (k + 1))
      rw [nm_len] at this
      simp only [this]
      omega
    · obtain rfl : k = 15 := by omega
      go_wp2
      clear hdv
      have hB0 : Below w.heap.size w ((w.alloc (.cells #[.int .u8 (97 + (c : Int) % 26)] 5)).alloc (.cells #[.int .u8 (49 + (d : Int) % 9)] 5)) := ((Below.refl _ _).alloc (Nat.le_refl _) _).alloc (by simp) _
      generalize (w.alloc (.cells #[.int .u8 (97 + (c : Int) % 26)] 5)).alloc (.cells #[.int .u8 (49 + (d : Int) % 9)] 5) = w0 at *
      have HB0 := hid hB0
      clear hB0
      go_loop [6] (fun sv => ∃ k : Nat, k ≤ 8 ∧ sv = .string (str (dgL d k))) (fun sv => 9 - (match sv with | .string s => s.size | _ => 0))
      case atStart => exact ⟨0, by omega, rfl⟩
      case round =>
        obtain ⟨k, hk, rfl⟩ := hrel
        have hz2 : (str (dgL d k)).size = k + 1 := by rw [str_size, dg_len]
        have hzi2 : ((str (dgL d k)).size : Int) = (k : Int) + 1 := by omega
        by_cases hlt : k < 8
        · have HMO := hid (str_more0 d k)
          go_wp2
          refine ⟨⟨k + 1, by omega, by rw [HMO.out]⟩, ?_⟩
          rw [HMO.out]
          simp only [hz2]
          have := str_size (dgL d (k + 1))
          rw [dg_len] at this
          simp only [this]
          omega
        · obtain rfl : k = 8 := by omega
          go_wp2_with fail
          refine (HA.out _).mono ?_
          rintro e w1 ⟨a1, c1, rfl, hb1⟩
          have hB1 := hid (below_call HB0.out hb1 HB0.out.size)
          have e1 : str (nmL c 15) ++ ⟨#[122]⟩ = str (nmL c 16) := str_more c 15
          clear hb1
          have e2 : str (dgL d 8) ++ ⟨#[48]⟩ = str (dgL d 9) := str_more0 d 8
          go_wp2_with fail
          refine (six_b c _).mono ?_
          rintro e w2 ⟨a2, c2, rfl, hb2⟩
          have hB2 := hid (below_call hB1.out hb2 hB1.out.size)
          clear hb2
          go_wp2_with fail
          refine (six_c d _).mono ?_
          rintro e w3 ⟨a3, c3, rfl, hb3⟩
          have hB3 := hid (below_call hB2.out hb3 hB2.out.size)
          clear hb3
          clear e1 e2
          go_wp2_with fail
          refine (six_d d _).mono ?_
          rintro e w4 ⟨a4, c4, rfl, hb4⟩
          have hB4 := hid (below_call hB3.out hb4 hB3.out.size)
          clear hb4
          go_wp2_with fail
          refine (six_e c _).mono ?_
          rintro e w5 ⟨a5, c5, rfl, hb5⟩
          have hB5 := hid (below_call hB4.out hb5 hB4.out.size)
          clear hb5
          go_wp2_with fail
          have hB6 := hid (hB5.out.alloc hB5.out.size (.cells M 5))
          refine (six_f sb hsb _).mono ?_
          rintro e w7 ⟨a7, c7, rfl, hb7⟩
          have hB7 := hid (below_call hB6.out hb7 hB6.out.size)
          clear hb7 hmk hbv
          go_wp2_with (first | (go_at_call 11; refine (num_any _ _).mono ?_; rintro e w9 ⟨rfl, rfl⟩) | (go_at_call 7; refine (awake_any _).mono ?_; rintro e w8 ⟨rfl, hb8⟩))
          go_ret
          exact ⟨rfl, below_call hB7.out hb8 hB7.out.size⟩

theorem lexLimits_any (w : World) (x y : Int) (h1 : 0 ≤ x) (h2 : x ≤ 255) (h3 : 0 ≤ y) (h4 : y ≤ 255) :
    Calls Try.prog 6 #[.int .u8 x, .int .u8 y] w fun e w' => e = .returned (.bool true) ∧ Below w.heap.size w w' := by
  obtain ⟨c, rfl⟩ : ∃ c : Nat, x = (c : Int) := ⟨x.toNat, by omega⟩
  obtain ⟨d, rfl⟩ : ∃ d : Nat, y = (d : Int) := ⟨y.toNat, by omega⟩
  exact lexLimits_nat w c d (by omega) (by omega)

end Go.Proofs.Ythgghkcmhiomeaa
