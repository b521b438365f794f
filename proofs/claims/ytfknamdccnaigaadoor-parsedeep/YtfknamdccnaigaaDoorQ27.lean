/-
  Walks: the law ParseDeep.
-/
import Derived.Test.YtfknamdccnaigaaDoorQ26
import Derived.Test.YtfknamdccnaigaaDoorQ25b
namespace Go.Proofs.YtfknamdccnaigaaDoor
open Go.RowKit Lx
set_option linter.unusedSimpArgs false
set_option linter.unusedVariables false
set_option maxRecDepth 100000

theorem strD_append (a b : List Nat) : str (a ++ b) = str a ++ str b := by
  unfold str
  rw [List.map_append]
  apply ByteArray.ext
  simp [ByteArray.data_append]
theorem strD_size (l : List Nat) : (str l).size = l.length := by simp [str, ByteArray.size]
theorem rep_sz (k n : Nat) (l : List Nat) (hk : k ≤ 60) (hl : l.length ≤ 12) (hn : n = (rep k l).length) : n ≤ 720 := by
  rw [hn, rep_len]
  calc k * l.length ≤ 60 * l.length := Nat.mul_le_mul_right _ hk
    _ ≤ 720 := by omega
/-- A text that grows by two more. -/
theorem grow2 {p a b : List Nat} {A B : ByteArray} (k : Nat) (hA : A = str a) (hB : B = str b) : (str (p ++ rep k (a ++ b)) ++ A) ++ B = str (p ++ rep (k + 1) (a ++ b)) := by
  rw [hA, hB, ← strD_append, ← strD_append, ← rep_more, List.append_assoc, List.append_assoc]
theorem grow1 {p a : List Nat} {A : ByteArray} (k : Nat) (hA : A = str a) : str (p ++ rep k a) ++ A = str (p ++ rep (k + 1) a) := by
  rw [hA, ← strD_append, ← rep_more, List.append_assoc]
theorem mem_rep {k : Nat} {l : List Nat} (h : ∀ x ∈ l, x < 256) : ∀ x ∈ rep k l, x < 256 := by
  induction k with
  | zero => intro x hx; cases hx
  | succ k ih =>
    intro x hx
    rcases List.mem_append.mp (show x ∈ l ++ rep k l from hx) with hx | hx
    · exact h x hx
    · exact ih x hx
theorem mem_app {a b : List Nat} (ha : ∀ x ∈ a, x < 256) (hb : ∀ x ∈ b, x < 256) : ∀ x ∈ a ++ b, x < 256 := by
  intro x hx
  rcases List.mem_append.mp hx with hx | hx
  · exact ha x hx
  · exact hb x hx
theorem len_rep {k : Nat} {l : List Nat} (hk : k ≤ 60) (hl : l.length ≤ 12) : (rep k l).length ≤ 720 := rep_sz k _ l hk hl rfl
/-- What Prog answers on a text, by its numbers. -/
theorem prog_lt (w : World) (l : List Nat) (s : ByteArray) (hs : s = str l) (hl : ∀ x ∈ l, x < 256) (hn : l.length ≤ 100000) (x p : Nat) (h : (progS l).2 = (x, p)) : Calls Tryd.prog 8 #[.string s] w fun e w' => ∃ ao m cap, e = .returned (.tuple #[.agg #[.slice ao m cap], .int .i64 (x : Int), .int .i64 (p : Int)]) ∧ Below w.heap.size w w' := by
  subst hs
  refine (pProg_any w (str l) (by rw [strD_size]; omega)).mono ?_
  rintro e w' ⟨v, he, ⟨ao, m, cap, rfl, -⟩, hb⟩
  rw [lst_str hl, h] at he
  exact ⟨ao, m, cap, he, hb⟩

def tA (c j : Nat) : List Nat := bgD c ++ rep j (32 :: ahD c)
def tB (c K j : Nat) : List Nat := (tA c K ++ (32 :: miD c)) ++ rep j (32 :: beD c)
def tC (j : Nat) : List Nat := [112, 114, 111, 99, 32, 109, 32, 40, 32, 41, 32, 123] ++ rep j [32, 119, 104, 105, 108, 101, 32, 42, 32, 123]
def tD (K j : Nat) : List Nat := tC K ++ rep j [32, 125]
theorem ah_len (c : Nat) : (32 :: ahD c).length ≤ 4 := by unfold ahD; split <;> (try split) <;> (try split) <;> decide
theorem be_len (c : Nat) : (32 :: beD c).length ≤ 2 := by unfold beD; split <;> (try split) <;> (try split) <;> decide
theorem bg_len (c : Nat) : (bgD c).length ≤ 20 := by unfold bgD; split <;> decide
theorem mi_len (c : Nat) : (32 :: miD c).length ≤ 5 := by unfold miD; split <;> decide
theorem ah_lt (c : Nat) : ∀ x ∈ (32 :: ahD c), x < 256 := by unfold ahD; split <;> (try split) <;> (try split) <;> decide
theorem be_lt (c : Nat) : ∀ x ∈ (32 :: beD c), x < 256 := by unfold beD; split <;> (try split) <;> (try split) <;> decide
theorem bg_lt (c : Nat) : ∀ x ∈ (bgD c), x < 256 := by unfold bgD; split <;> decide
theorem mi_lt (c : Nat) : ∀ x ∈ (32 :: miD c), x < 256 := by unfold miD; split <;> decide
theorem tA_len (c : Nat) {j : Nat} (h : j ≤ 60) : (tA c j).length ≤ 740 := by
  have h1 := len_rep (l := 32 :: ahD c) h (Nat.le_trans (ah_len c) (by omega))
  have h2 := bg_len c
  unfold tA; rw [List.length_append]; omega
theorem tB_len (c : Nat) {K j : Nat} (hK : K ≤ 60) (h : j ≤ 60) : (tB c K j).length ≤ 1500 := by
  have h1 := len_rep (l := 32 :: beD c) h (Nat.le_trans (be_len c) (by omega))
  have h2 := tA_len c hK
  have h3 := mi_len c
  unfold tB; rw [List.length_append, List.length_append]; omega
theorem tC_len {j : Nat} (h : j ≤ 60) : (tC j).length ≤ 740 := by
  have h1 := len_rep (l := [32, 119, 104, 105, 108, 101, 32, 42, 32, 123]) h (by decide)
  unfold tC; rw [List.length_append, show List.length [112, 114, 111, 99, 32, 109, 32, 40, 32, 41, 32, 123] = 12 from rfl]; omega
theorem tD_len {K j : Nat} (hK : K ≤ 60) (h : j ≤ 60) : (tD K j).length ≤ 1500 := by
  have h1 := len_rep (l := [32, 125]) h (by decide)
  have h2 := tC_len hK
  unfold tD; rw [List.length_append]; omega
theorem tA_sz (c : Nat) {j : Nat} (h : j ≤ 60) : ∃ n, (str (tA c j)).size = n ∧ n ≤ 1500 := ⟨_, rfl, by have := tA_len c h; rw [strD_size]; omega⟩
theorem tB_sz (c : Nat) {K j : Nat} (hK : K ≤ 60) (h : j ≤ 60) : ∃ n, (str (tB c K j)).size = n ∧ n ≤ 1500 := ⟨_, rfl, by have := tB_len c hK h; rw [strD_size]; omega⟩
theorem tC_sz {j : Nat} (h : j ≤ 60) : ∃ n, (str (tC j)).size = n ∧ n ≤ 1500 := ⟨_, rfl, by have := tC_len h; rw [strD_size]; omega⟩
theorem tD_sz {K j : Nat} (hK : K ≤ 60) (h : j ≤ 60) : ∃ n, (str (tD K j)).size = n ∧ n ≤ 1500 := ⟨_, rfl, by have := tD_len hK h; rw [strD_size]; omega⟩
theorem tA_more (c j : Nat) {A : ByteArray} (hA : A = str (ahD c)) : (str (tA c j) ++ ⟨#[32]⟩) ++ A = str (tA c (j + 1)) := by
  rw [show (⟨#[32]⟩ : ByteArray) = str [32] from rfl]
  exact grow2 (p := bgD c) (a := [32]) (b := ahD c) j rfl hA
theorem tB_more (c K j : Nat) {A : ByteArray} (hA : A = str (beD c)) : (str (tB c K j) ++ ⟨#[32]⟩) ++ A = str (tB c K (j + 1)) := by
  rw [show (⟨#[32]⟩ : ByteArray) = str [32] from rfl]
  exact grow2 (p := tA c K ++ (32 :: miD c)) (a := [32]) (b := beD c) j rfl hA
theorem tB_zero (c K : Nat) {A : ByteArray} (hA : A = str (miD c)) : (str (tA c K) ++ ⟨#[32]⟩) ++ A = str (tB c K 0) := by
  rw [show (⟨#[32]⟩ : ByteArray) = str [32] from rfl, hA, ← strD_append, ← strD_append]
  show _ = str ((tA c K ++ (32 :: miD c)) ++ [])
  rw [List.append_nil, List.append_assoc]; rfl
theorem tC_more (j : Nat) : str (tC j) ++ ⟨#[32, 119, 104, 105, 108, 101, 32, 42, 32, 123]⟩ = str (tC (j + 1)) := grow1 (p := [112, 114, 111, 99, 32, 109, 32, 40, 32, 41, 32, 123]) j rfl
theorem tD_more (K j : Nat) : str (tD K j) ++ ⟨#[32, 125]⟩ = str (tD K (j + 1)) := grow1 (p := tC K) j rfl
theorem tD_zero (K : Nat) : str (tC K) = str (tD K 0) := by unfold tD rep; rw [List.append_nil]
theorem progA (c K x p : Nat) (hK : K ≤ 60) (h : (progS (deepS c K)).2 = (x, p)) (W : World) : Calls Tryd.prog 8 #[.string (str (tB c K K) ++ ⟨#[32, 59, 32, 125]⟩)] W fun e w' => ∃ ao m cap, e = .returned (.tuple #[.agg #[.slice ao m cap], .int .i64 (x : Int), .int .i64 (p : Int)]) ∧ Below W.heap.size W w' :=
  prog_lt W (deepS c K) _ (by rw [show (⟨#[32, 59, 32, 125]⟩ : ByteArray) = str [32, 59, 32, 125] from rfl, ← strD_append]; rfl)
    (mem_app (mem_app (mem_app (mem_app (bg_lt c) (mem_rep (ah_lt c))) (mi_lt c)) (mem_rep (be_lt c))) (by decide))
    (by have h1 := tB_len c hK hK; show (tB c K K ++ [32, 59, 32, 125]).length ≤ _; rw [List.length_append, show List.length [32, 59, 32, 125] = 4 from rfl]; omega) x p h
theorem progB (K y q : Nat) (hK : K ≤ 60) (h : (progS (deepT K)).2 = (y, q)) (W : World) : Calls Tryd.prog 8 #[.string (str (tD K K) ++ ⟨#[32, 125]⟩)] W fun e w' => ∃ ao m cap, e = .returned (.tuple #[.agg #[.slice ao m cap], .int .i64 (y : Int), .int .i64 (q : Int)]) ∧ Below W.heap.size W w' :=
  prog_lt W (deepT K) _ (by rw [show (⟨#[32, 125]⟩ : ByteArray) = str [32, 125] from rfl, ← strD_append]; rfl)
    (mem_app (mem_app (mem_app (by decide) (mem_rep (by decide))) (mem_rep (by decide))) (by decide))
    (by have h1 := tD_len hK hK; show (tD K K ++ [32, 125]).length ≤ _; rw [List.length_append, show List.length [32, 125] = 2 from rfl]; omega) y q h

set_option maxHeartbeats 3200000 in
theorem parseDeep_0 (w : World) (a0 a1 : Int) (h00 : 0 ≤ a0) (h01 : a0 ≤ 255) (h10 : 0 ≤ a1) (h11 : a1 ≤ 255) (hm : a1 % 4 = 0) :
    Calls Tryd.prog 5 #[.int .u8 a0, .int .u8 a1] w fun e w' => e = .returned (.bool true) ∧ Below w.heap.size w w' := by
  obtain ⟨K, hK⟩ : ∃ K : Nat, (1 + a0 % 60 : Int) = (K : Int) := ⟨(1 + a0 % 60).toNat, by omega⟩
  have hK1 : 1 ≤ K := by omega
  have hK2 : K ≤ 60 := by omega
  obtain ⟨x, p, y, q, hx, hy, hxy⟩ : ∃ x p y q : Nat, (progS (deepS 0 K)).2 = (x, p) ∧ (progS (deepT K)).2 = (y, q) ∧ ((K ≤ 50 ∧ x = 0 ∧ p = 0 ∧ y = 0 ∧ q = 0) ∨ (50 < K ∧ x = 5 ∧ p = 118 ∧ y = 5 ∧ q = 521)) := by
    by_cases h : K ≤ 50
    · exact ⟨0, 0, 0, 0, by rw [deepS_of (by omega) hK1 hK2, if_pos h], by rw [deepT_of hK1 hK2, if_pos h], .inl ⟨h, rfl, rfl, rfl, rfl⟩⟩
    · exact ⟨5, 118, 5, 521, by rw [deepS_of (by omega) hK1 hK2, if_neg h]; rfl, by rw [deepT_of hK1 hK2, if_neg h], .inr ⟨by omega, rfl, rfl, rfl, rfl⟩⟩
  have HP1 := hid (progA 0 K x p hK2 hx)
  have HP2 := hid (progB K y q hK2 hy)
  have HXY := hid hxy
  clear hx hy hxy
  go_enter Tryd.func5, Tryd.ntmps5
  go_wp2
  go_loopw [11, 12] (fun sv iv wr => ∃ j : Nat, j ≤ K ∧ sv = .string (str (tA 0 j)) ∧ iv = .int .i64 (j : Int) ∧ Below w.heap.size w wr) (fun sv iv wr => K - (intOf iv).toNat)
  case atStart => exact ⟨0, by omega, rfl, rfl, ((Below.refl _ _).alloc (Nat.le_refl _) _).alloc (by simp) _⟩
  case round =>
    obtain ⟨j, hj, rfl, rfl, hbw⟩ := hrel
    obtain ⟨n, hz, hn⟩ := tA_sz 0 (j := j) (by omega)
    have HB := hid hbw
    clear hbw
    by_cases hlt : j < K
    · have HG := hid (tA_more 0 j (A := ⟨#[40]⟩) rfl)
      go_wp2
      refine ⟨⟨j + 1, by omega, congrArg Value.string HG.out, rfl, HB.out⟩, ?_⟩
      simp only [intOf]
      omega
    · obtain rfl : j = K := by omega
      clear hj hlt
      have HG := hid (tB_zero 0 j (A := ⟨#[49]⟩) rfl)
      go_wp2
      go_loop [11, 13] (fun sv iv => ∃ i : Nat, i ≤ j ∧ sv = .string (str (tB 0 j i)) ∧ iv = .int .i64 (i : Int)) (fun sv iv => j - (intOf iv).toNat)
      case atStart => exact ⟨0, by omega, congrArg Value.string HG.out, rfl⟩
      case round =>
        obtain ⟨i, hi, rfl, rfl⟩ := hrel
        clear hz hn HG
        obtain ⟨m, hz, hm2⟩ := tB_sz 0 hK2 (j := i) (by omega)
        by_cases hlt : i < j
        · have HG := hid (tB_more 0 j i (A := ⟨#[41]⟩) rfl)
          go_wp2
          refine ⟨⟨i + 1, by omega, congrArg Value.string HG.out, rfl⟩, ?_⟩
          simp only [intOf]
          omega
        · obtain rfl : i = j := by omega
          clear hi hlt
          go_wp2_with fail
          refine (HP1.out _).mono ?_
          rintro e w1 ⟨ao1, m1, cap1, rfl, hb1⟩
          have HB1 := hid (below_call HB.out hb1 HB.out.size)
          clear hb1 HP1 hz hm2
          go_wp2
          go_loopw [17, 18] (fun tv kv wr => ∃ k : Nat, k ≤ i ∧ tv = .string (str (tC k)) ∧ kv = .int .i64 (k : Int) ∧ Below w.heap.size w wr) (fun tv kv wr => i - (intOf kv).toNat)
          case atStart => exact ⟨0, by omega, rfl, rfl, HB1.out.alloc HB1.out.size _⟩
          case round =>
            obtain ⟨k, hk, rfl, rfl, hbw⟩ := hrel
            obtain ⟨n2, hz, hn2⟩ := tC_sz (j := k) (by omega)
            have HB2 := hid hbw
            clear hbw
            by_cases hlt : k < i
            · have HG := hid (tC_more k)
              go_wp2
              refine ⟨⟨k + 1, by omega, congrArg Value.string HG.out, rfl, HB2.out⟩, ?_⟩
              simp only [intOf]
              omega
            · obtain rfl : k = i := by omega
              clear hk hlt hz hn2
              go_wp2
              go_loop [17, 19] (fun tv lv => ∃ l : Nat, l ≤ k ∧ tv = .string (str (tD k l)) ∧ lv = .int .i64 (l : Int)) (fun tv lv => k - (intOf lv).toNat)
              case atStart => exact ⟨0, by omega, congrArg Value.string (tD_zero _), rfl⟩
              case round =>
                obtain ⟨l, hl, rfl, rfl⟩ := hrel
                obtain ⟨n3, hz, hn3⟩ := tD_sz hK2 (j := l) (by omega)
                by_cases hlt : l < k
                · have HG := hid (tD_more k l)
                  go_wp2
                  refine ⟨⟨l + 1, by omega, congrArg Value.string HG.out, rfl⟩, ?_⟩
                  simp only [intOf]
                  omega
                · obtain rfl : l = k := by omega
                  clear hl hlt
                  go_wp2_with fail
                  refine (HP2.out _).mono ?_
                  rintro e w2 ⟨ao2, m2, cap2, rfl, hb2⟩
                  have HB3 := hid (below_call HB2.out hb2 HB2.out.size)
                  clear hb2 HP2 hz hn3 HB2 HB1 HB
                  obtain ⟨hc, rfl, rfl, rfl, rfl⟩ | ⟨hc, rfl, rfl, rfl, rfl⟩ := HXY.out
                  all_goals
                    clear HXY
                    go_wp2_with (first | (go_at_call 10; refine (pnum_any _ _).mono ?_; rintro e w4 ⟨rfl, hw4⟩; subst w4) | (go_at_call 7; refine (awake8_any _).mono ?_; rintro e w5 ⟨rfl, hb5⟩))
                    go_ret
                    have HB4 := HB3.out.alloc HB3.out.size (.cells #[.slice ao2 m2 cap2] 25)
                    exact ⟨rfl, below_call HB4 hb5 HB4.size⟩

set_option maxHeartbeats 3200000 in
theorem parseDeep_1 (w : World) (a0 a1 : Int) (h00 : 0 ≤ a0) (h01 : a0 ≤ 255) (h10 : 0 ≤ a1) (h11 : a1 ≤ 255) (hm : a1 % 4 = 1) :
    Calls Tryd.prog 5 #[.int .u8 a0, .int .u8 a1] w fun e w' => e = .returned (.bool true) ∧ Below w.heap.size w w' := by
  obtain ⟨K, hK⟩ : ∃ K : Nat, (1 + a0 % 60 : Int) = (K : Int) := ⟨(1 + a0 % 60).toNat, by omega⟩
  have hK1 : 1 ≤ K := by omega
  have hK2 : K ≤ 60 := by omega
  obtain ⟨x, p, y, q, hx, hy, hxy⟩ : ∃ x p y q : Nat, (progS (deepS 1 K)).2 = (x, p) ∧ (progS (deepT K)).2 = (y, q) ∧ ((K ≤ 50 ∧ x = 0 ∧ p = 0 ∧ y = 0 ∧ q = 0) ∨ (50 < K ∧ x = 5 ∧ p = 118 ∧ y = 5 ∧ q = 521)) := by
    by_cases h : K ≤ 50
    · exact ⟨0, 0, 0, 0, by rw [deepS_of (by omega) hK1 hK2, if_pos h], by rw [deepT_of hK1 hK2, if_pos h], .inl ⟨h, rfl, rfl, rfl, rfl⟩⟩
    · exact ⟨5, 118, 5, 521, by rw [deepS_of (by omega) hK1 hK2, if_neg h]; rfl, by rw [deepT_of hK1 hK2, if_neg h], .inr ⟨by omega, rfl, rfl, rfl, rfl⟩⟩
  have HP1 := hid (progA 1 K x p hK2 hx)
  have HP2 := hid (progB K y q hK2 hy)
  have HXY := hid hxy
  clear hx hy hxy
  go_enter Tryd.func5, Tryd.ntmps5
  go_wp2
  go_loopw [11, 12] (fun sv iv wr => ∃ j : Nat, j ≤ K ∧ sv = .string (str (tA 1 j)) ∧ iv = .int .i64 (j : Int) ∧ Below w.heap.size w wr) (fun sv iv wr => K - (intOf iv).toNat)
  case atStart => exact ⟨0, by omega, rfl, rfl, ((Below.refl _ _).alloc (Nat.le_refl _) _).alloc (by simp) _⟩
  case round =>
    obtain ⟨j, hj, rfl, rfl, hbw⟩ := hrel
    obtain ⟨n, hz, hn⟩ := tA_sz 1 (j := j) (by omega)
    have HB := hid hbw
    clear hbw
    by_cases hlt : j < K
    · have HG := hid (tA_more 1 j (A := ⟨#[45]⟩) rfl)
      go_wp2
      refine ⟨⟨j + 1, by omega, congrArg Value.string HG.out, rfl, HB.out⟩, ?_⟩
      simp only [intOf]
      omega
    · obtain rfl : j = K := by omega
      clear hj hlt
      have HG := hid (tB_zero 1 j (A := ⟨#[49]⟩) rfl)
      go_wp2
      go_loop [11, 13] (fun sv iv => ∃ i : Nat, i ≤ j ∧ sv = .string (str (tB 1 j i)) ∧ iv = .int .i64 (i : Int)) (fun sv iv => j - (intOf iv).toNat)
      case atStart => exact ⟨0, by omega, congrArg Value.string HG.out, rfl⟩
      case round =>
        obtain ⟨i, hi, rfl, rfl⟩ := hrel
        clear hz hn HG
        obtain ⟨m, hz, hm2⟩ := tB_sz 1 hK2 (j := i) (by omega)
        by_cases hlt : i < j
        · have HG := hid (tB_more 1 j i (A := ⟨#[]⟩) rfl)
          go_wp2
          refine ⟨⟨i + 1, by omega, congrArg Value.string HG.out, rfl⟩, ?_⟩
          simp only [intOf]
          omega
        · obtain rfl : i = j := by omega
          clear hi hlt
          go_wp2_with fail
          refine (HP1.out _).mono ?_
          rintro e w1 ⟨ao1, m1, cap1, rfl, hb1⟩
          have HB1 := hid (below_call HB.out hb1 HB.out.size)
          clear hb1 HP1 hz hm2
          go_wp2
          go_loopw [17, 18] (fun tv kv wr => ∃ k : Nat, k ≤ i ∧ tv = .string (str (tC k)) ∧ kv = .int .i64 (k : Int) ∧ Below w.heap.size w wr) (fun tv kv wr => i - (intOf kv).toNat)
          case atStart => exact ⟨0, by omega, rfl, rfl, HB1.out.alloc HB1.out.size _⟩
          case round =>
            obtain ⟨k, hk, rfl, rfl, hbw⟩ := hrel
            obtain ⟨n2, hz, hn2⟩ := tC_sz (j := k) (by omega)
            have HB2 := hid hbw
            clear hbw
            by_cases hlt : k < i
            · have HG := hid (tC_more k)
              go_wp2
              refine ⟨⟨k + 1, by omega, congrArg Value.string HG.out, rfl, HB2.out⟩, ?_⟩
              simp only [intOf]
              omega
            · obtain rfl : k = i := by omega
              clear hk hlt hz hn2
              go_wp2
              go_loop [17, 19] (fun tv lv => ∃ l : Nat, l ≤ k ∧ tv = .string (str (tD k l)) ∧ lv = .int .i64 (l : Int)) (fun tv lv => k - (intOf lv).toNat)
              case atStart => exact ⟨0, by omega, congrArg Value.string (tD_zero _), rfl⟩
              case round =>
                obtain ⟨l, hl, rfl, rfl⟩ := hrel
                obtain ⟨n3, hz, hn3⟩ := tD_sz hK2 (j := l) (by omega)
                by_cases hlt : l < k
                · have HG := hid (tD_more k l)
                  go_wp2
                  refine ⟨⟨l + 1, by omega, congrArg Value.string HG.out, rfl⟩, ?_⟩
                  simp only [intOf]
                  omega
                · obtain rfl : l = k := by omega
                  clear hl hlt
                  go_wp2_with fail
                  refine (HP2.out _).mono ?_
                  rintro e w2 ⟨ao2, m2, cap2, rfl, hb2⟩
                  have HB3 := hid (below_call HB2.out hb2 HB2.out.size)
                  clear hb2 HP2 hz hn3 HB2 HB1 HB
                  obtain ⟨hc, rfl, rfl, rfl, rfl⟩ | ⟨hc, rfl, rfl, rfl, rfl⟩ := HXY.out
                  all_goals
                    clear HXY
                    go_wp2_with (first | (go_at_call 10; refine (pnum_any _ _).mono ?_; rintro e w4 ⟨rfl, hw4⟩; subst w4) | (go_at_call 7; refine (awake8_any _).mono ?_; rintro e w5 ⟨rfl, hb5⟩))
                    go_ret
                    have HB4 := HB3.out.alloc HB3.out.size (.cells #[.slice ao2 m2 cap2] 25)
                    exact ⟨rfl, below_call HB4 hb5 HB4.size⟩

set_option maxHeartbeats 3200000 in
theorem parseDeep_2 (w : World) (a0 a1 : Int) (h00 : 0 ≤ a0) (h01 : a0 ≤ 255) (h10 : 0 ≤ a1) (h11 : a1 ≤ 255) (hm : a1 % 4 = 2) :
    Calls Tryd.prog 5 #[.int .u8 a0, .int .u8 a1] w fun e w' => e = .returned (.bool true) ∧ Below w.heap.size w w' := by
  obtain ⟨K, hK⟩ : ∃ K : Nat, (1 + a0 % 60 : Int) = (K : Int) := ⟨(1 + a0 % 60).toNat, by omega⟩
  have hK1 : 1 ≤ K := by omega
  have hK2 : K ≤ 60 := by omega
  obtain ⟨x, p, y, q, hx, hy, hxy⟩ : ∃ x p y q : Nat, (progS (deepS 2 K)).2 = (x, p) ∧ (progS (deepT K)).2 = (y, q) ∧ ((K ≤ 50 ∧ x = 0 ∧ p = 0 ∧ y = 0 ∧ q = 0) ∨ (50 < K ∧ x = 5 ∧ p = 221 ∧ y = 5 ∧ q = 521)) := by
    by_cases h : K ≤ 50
    · exact ⟨0, 0, 0, 0, by rw [deepS_of (by omega) hK1 hK2, if_pos h], by rw [deepT_of hK1 hK2, if_pos h], .inl ⟨h, rfl, rfl, rfl, rfl⟩⟩
    · exact ⟨5, 221, 5, 521, by rw [deepS_of (by omega) hK1 hK2, if_neg h]; rfl, by rw [deepT_of hK1 hK2, if_neg h], .inr ⟨by omega, rfl, rfl, rfl, rfl⟩⟩
  have HP1 := hid (progA 2 K x p hK2 hx)
  have HP2 := hid (progB K y q hK2 hy)
  have HXY := hid hxy
  clear hx hy hxy
  go_enter Tryd.func5, Tryd.ntmps5
  go_wp2
  go_loopw [11, 12] (fun sv iv wr => ∃ j : Nat, j ≤ K ∧ sv = .string (str (tA 2 j)) ∧ iv = .int .i64 (j : Int) ∧ Below w.heap.size w wr) (fun sv iv wr => K - (intOf iv).toNat)
  case atStart => exact ⟨0, by omega, rfl, rfl, ((Below.refl _ _).alloc (Nat.le_refl _) _).alloc (by simp) _⟩
  case round =>
    obtain ⟨j, hj, rfl, rfl, hbw⟩ := hrel
    obtain ⟨n, hz, hn⟩ := tA_sz 2 (j := j) (by omega)
    have HB := hid hbw
    clear hbw
    by_cases hlt : j < K
    · have HG := hid (tA_more 2 j (A := ⟨#[110, 111, 116]⟩) rfl)
      go_wp2
      refine ⟨⟨j + 1, by omega, congrArg Value.string HG.out, rfl, HB.out⟩, ?_⟩
      simp only [intOf]
      omega
    · obtain rfl : j = K := by omega
      clear hj hlt
      have HG := hid (tB_zero 2 j (A := ⟨#[116, 114, 117, 101]⟩) rfl)
      go_wp2
      go_loop [11, 13] (fun sv iv => ∃ i : Nat, i ≤ j ∧ sv = .string (str (tB 2 j i)) ∧ iv = .int .i64 (i : Int)) (fun sv iv => j - (intOf iv).toNat)
      case atStart => exact ⟨0, by omega, congrArg Value.string HG.out, rfl⟩
      case round =>
        obtain ⟨i, hi, rfl, rfl⟩ := hrel
        clear hz hn HG
        obtain ⟨m, hz, hm2⟩ := tB_sz 2 hK2 (j := i) (by omega)
        by_cases hlt : i < j
        · have HG := hid (tB_more 2 j i (A := ⟨#[]⟩) rfl)
          go_wp2
          refine ⟨⟨i + 1, by omega, congrArg Value.string HG.out, rfl⟩, ?_⟩
          simp only [intOf]
          omega
        · obtain rfl : i = j := by omega
          clear hi hlt
          go_wp2_with fail
          refine (HP1.out _).mono ?_
          rintro e w1 ⟨ao1, m1, cap1, rfl, hb1⟩
          have HB1 := hid (below_call HB.out hb1 HB.out.size)
          clear hb1 HP1 hz hm2
          go_wp2
          go_loopw [17, 18] (fun tv kv wr => ∃ k : Nat, k ≤ i ∧ tv = .string (str (tC k)) ∧ kv = .int .i64 (k : Int) ∧ Below w.heap.size w wr) (fun tv kv wr => i - (intOf kv).toNat)
          case atStart => exact ⟨0, by omega, rfl, rfl, HB1.out.alloc HB1.out.size _⟩
          case round =>
            obtain ⟨k, hk, rfl, rfl, hbw⟩ := hrel
            obtain ⟨n2, hz, hn2⟩ := tC_sz (j := k) (by omega)
            have HB2 := hid hbw
            clear hbw
            by_cases hlt : k < i
            · have HG := hid (tC_more k)
              go_wp2
              refine ⟨⟨k + 1, by omega, congrArg Value.string HG.out, rfl, HB2.out⟩, ?_⟩
              simp only [intOf]
              omega
            · obtain rfl : k = i := by omega
              clear hk hlt hz hn2
              go_wp2
              go_loop [17, 19] (fun tv lv => ∃ l : Nat, l ≤ k ∧ tv = .string (str (tD k l)) ∧ lv = .int .i64 (l : Int)) (fun tv lv => k - (intOf lv).toNat)
              case atStart => exact ⟨0, by omega, congrArg Value.string (tD_zero _), rfl⟩
              case round =>
                obtain ⟨l, hl, rfl, rfl⟩ := hrel
                obtain ⟨n3, hz, hn3⟩ := tD_sz hK2 (j := l) (by omega)
                by_cases hlt : l < k
                · have HG := hid (tD_more k l)
                  go_wp2
                  refine ⟨⟨l + 1, by omega, congrArg Value.string HG.out, rfl⟩, ?_⟩
                  simp only [intOf]
                  omega
                · obtain rfl : l = k := by omega
                  clear hl hlt
                  go_wp2_with fail
                  refine (HP2.out _).mono ?_
                  rintro e w2 ⟨ao2, m2, cap2, rfl, hb2⟩
                  have HB3 := hid (below_call HB2.out hb2 HB2.out.size)
                  clear hb2 HP2 hz hn3 HB2 HB1 HB
                  obtain ⟨hc, rfl, rfl, rfl, rfl⟩ | ⟨hc, rfl, rfl, rfl, rfl⟩ := HXY.out
                  all_goals
                    clear HXY
                    go_wp2_with (first | (go_at_call 10; refine (pnum_any _ _).mono ?_; rintro e w4 ⟨rfl, hw4⟩; subst w4) | (go_at_call 7; refine (awake8_any _).mono ?_; rintro e w5 ⟨rfl, hb5⟩))
                    go_ret
                    have HB4 := HB3.out.alloc HB3.out.size (.cells #[.slice ao2 m2 cap2] 25)
                    exact ⟨rfl, below_call HB4 hb5 HB4.size⟩

set_option maxHeartbeats 3200000 in
theorem parseDeep_3 (w : World) (a0 a1 : Int) (h00 : 0 ≤ a0) (h01 : a0 ≤ 255) (h10 : 0 ≤ a1) (h11 : a1 ≤ 255) (hm : a1 % 4 = 3) :
    Calls Tryd.prog 5 #[.int .u8 a0, .int .u8 a1] w fun e w' => e = .returned (.bool true) ∧ Below w.heap.size w w' := by
  obtain ⟨K, hK⟩ : ∃ K : Nat, (1 + a0 % 60 : Int) = (K : Int) := ⟨(1 + a0 % 60).toNat, by omega⟩
  have hK1 : 1 ≤ K := by omega
  have hK2 : K ≤ 60 := by omega
  obtain ⟨x, p, y, q, hx, hy, hxy⟩ : ∃ x p y q : Nat, (progS (deepS 3 K)).2 = (x, p) ∧ (progS (deepT K)).2 = (y, q) ∧ ((K ≤ 50 ∧ x = 0 ∧ p = 0 ∧ y = 0 ∧ q = 0) ∨ (50 < K ∧ x = 5 ∧ p = 121 ∧ y = 5 ∧ q = 521)) := by
    by_cases h : K ≤ 50
    · exact ⟨0, 0, 0, 0, by rw [deepS_of (by omega) hK1 hK2, if_pos h], by rw [deepT_of hK1 hK2, if_pos h], .inl ⟨h, rfl, rfl, rfl, rfl⟩⟩
    · exact ⟨5, 121, 5, 521, by rw [deepS_of (by omega) hK1 hK2, if_neg h]; rfl, by rw [deepT_of hK1 hK2, if_neg h], .inr ⟨by omega, rfl, rfl, rfl, rfl⟩⟩
  have HP1 := hid (progA 3 K x p hK2 hx)
  have HP2 := hid (progB K y q hK2 hy)
  have HXY := hid hxy
  clear hx hy hxy
  go_enter Tryd.func5, Tryd.ntmps5
  go_wp2
  go_loopw [11, 12] (fun sv iv wr => ∃ j : Nat, j ≤ K ∧ sv = .string (str (tA 3 j)) ∧ iv = .int .i64 (j : Int) ∧ Below w.heap.size w wr) (fun sv iv wr => K - (intOf iv).toNat)
  case atStart => exact ⟨0, by omega, rfl, rfl, ((Below.refl _ _).alloc (Nat.le_refl _) _).alloc (by simp) _⟩
  case round =>
    obtain ⟨j, hj, rfl, rfl, hbw⟩ := hrel
    obtain ⟨n, hz, hn⟩ := tA_sz 3 (j := j) (by omega)
    have HB := hid hbw
    clear hbw
    by_cases hlt : j < K
    · have HG := hid (tA_more 3 j (A := ⟨#[91]⟩) rfl)
      go_wp2
      refine ⟨⟨j + 1, by omega, congrArg Value.string HG.out, rfl, HB.out⟩, ?_⟩
      simp only [intOf]
      omega
    · obtain rfl : j = K := by omega
      clear hj hlt
      have HG := hid (tB_zero 3 j (A := ⟨#[116, 114, 117, 101]⟩) rfl)
      go_wp2
      go_loop [11, 13] (fun sv iv => ∃ i : Nat, i ≤ j ∧ sv = .string (str (tB 3 j i)) ∧ iv = .int .i64 (i : Int)) (fun sv iv => j - (intOf iv).toNat)
      case atStart => exact ⟨0, by omega, congrArg Value.string HG.out, rfl⟩
      case round =>
        obtain ⟨i, hi, rfl, rfl⟩ := hrel
        clear hz hn HG
        obtain ⟨m, hz, hm2⟩ := tB_sz 3 hK2 (j := i) (by omega)
        by_cases hlt : i < j
        · have HG := hid (tB_more 3 j i (A := ⟨#[93]⟩) rfl)
          go_wp2
          refine ⟨⟨i + 1, by omega, congrArg Value.string HG.out, rfl⟩, ?_⟩
          simp only [intOf]
          omega
        · obtain rfl : i = j := by omega
          clear hi hlt
          go_wp2_with fail
          refine (HP1.out _).mono ?_
          rintro e w1 ⟨ao1, m1, cap1, rfl, hb1⟩
          have HB1 := hid (below_call HB.out hb1 HB.out.size)
          clear hb1 HP1 hz hm2
          go_wp2
          go_loopw [17, 18] (fun tv kv wr => ∃ k : Nat, k ≤ i ∧ tv = .string (str (tC k)) ∧ kv = .int .i64 (k : Int) ∧ Below w.heap.size w wr) (fun tv kv wr => i - (intOf kv).toNat)
          case atStart => exact ⟨0, by omega, rfl, rfl, HB1.out.alloc HB1.out.size _⟩
          case round =>
            obtain ⟨k, hk, rfl, rfl, hbw⟩ := hrel
            obtain ⟨n2, hz, hn2⟩ := tC_sz (j := k) (by omega)
            have HB2 := hid hbw
            clear hbw
            by_cases hlt : k < i
            · have HG := hid (tC_more k)
              go_wp2
              refine ⟨⟨k + 1, by omega, congrArg Value.string HG.out, rfl, HB2.out⟩, ?_⟩
              simp only [intOf]
              omega
            · obtain rfl : k = i := by omega
              clear hk hlt hz hn2
              go_wp2
              go_loop [17, 19] (fun tv lv => ∃ l : Nat, l ≤ k ∧ tv = .string (str (tD k l)) ∧ lv = .int .i64 (l : Int)) (fun tv lv => k - (intOf lv).toNat)
              case atStart => exact ⟨0, by omega, congrArg Value.string (tD_zero _), rfl⟩
              case round =>
                obtain ⟨l, hl, rfl, rfl⟩ := hrel
                obtain ⟨n3, hz, hn3⟩ := tD_sz hK2 (j := l) (by omega)
                by_cases hlt : l < k
                · have HG := hid (tD_more k l)
                  go_wp2
                  refine ⟨⟨l + 1, by omega, congrArg Value.string HG.out, rfl⟩, ?_⟩
                  simp only [intOf]
                  omega
                · obtain rfl : l = k := by omega
                  clear hl hlt
                  go_wp2_with fail
                  refine (HP2.out _).mono ?_
                  rintro e w2 ⟨ao2, m2, cap2, rfl, hb2⟩
                  have HB3 := hid (below_call HB2.out hb2 HB2.out.size)
                  clear hb2 HP2 hz hn3 HB2 HB1 HB
                  obtain ⟨hc, rfl, rfl, rfl, rfl⟩ | ⟨hc, rfl, rfl, rfl, rfl⟩ := HXY.out
                  all_goals
                    clear HXY
                    go_wp2_with (first | (go_at_call 10; refine (pnum_any _ _).mono ?_; rintro e w4 ⟨rfl, hw4⟩; subst w4) | (go_at_call 7; refine (awake8_any _).mono ?_; rintro e w5 ⟨rfl, hb5⟩))
                    go_ret
                    have HB4 := HB3.out.alloc HB3.out.size (.cells #[.slice ao2 m2 cap2] 25)
                    exact ⟨rfl, below_call HB4 hb5 HB4.size⟩

theorem parseDeep_any (w : World) (a0 a1 : Int) (h00 : 0 ≤ a0) (h01 : a0 ≤ 255) (h10 : 0 ≤ a1) (h11 : a1 ≤ 255) :
    Calls Tryd.prog 5 #[.int .u8 a0, .int .u8 a1] w fun e w' => e = .returned (.bool true) ∧ Below w.heap.size w w' := by
  rcases (by omega : a1 % 4 = 0 ∨ a1 % 4 = 1 ∨ a1 % 4 = 2 ∨ a1 % 4 = 3) with h | h | h | h
  · exact parseDeep_0 w a0 a1 h00 h01 h10 h11 h
  · exact parseDeep_1 w a0 a1 h00 h01 h10 h11 h
  · exact parseDeep_2 w a0 a1 h00 h01 h10 h11 h
  · exact parseDeep_3 w a0 a1 h00 h01 h10 h11 h
end Go.Proofs.YtfknamdccnaigaaDoor
