/-
  Walks: the law ParseBlanks.
-/
import Derived.Test.YtjofhaakkleecaaDoorQN
import Derived.Test.YtjofhaakkleecaaDoorQ32
namespace Go.Proofs.YtjofhaakkleecaaDoor
open Go.RowKit Lx
set_option linter.unusedSimpArgs false
set_option linter.unusedVariables false
set_option maxRecDepth 100000

theorem joinB_snoc : ∀ (L : List Tk) (c : Nat) (t : Tk), joinB c (L ++ [t]) = joinB c L ++ (sepN ((c + L.length) % 4) ++ t.t)
  | [], c, t => by simp [joinB]
  | a :: r, c, t => by
    rw [List.cons_append]
    unfold joinB
    rw [joinB_snoc r (c + 1) t]
    simp only [List.length_cons, List.append_assoc]
    rw [show c + 1 + r.length = c + (r.length + 1) by omega]
theorem joinB_small {L : List Tk} (h : ∀ t ∈ L, ∀ x ∈ t.t, x < 256) : ∀ c, ∀ x ∈ joinB c L, x < 256 := by
  induction L with
  | nil => intro c x hx; simp [joinB] at hx
  | cons t r ih =>
    intro c x hx
    unfold joinB at hx
    rw [List.mem_append, List.mem_append] at hx
    rcases hx with hx | hx | hx
    · unfold sepN at hx
      split at hx <;> simp at hx <;> omega
    · exact h t (List.mem_cons_self ..) x hx
    · exact ih (fun t ht => h t (List.mem_cons_of_mem _ ht)) (c + 1) x hx
/-- What has been joined of the first i tokens. -/
def tZ (c : Nat) (L : List Tk) (i : Nat) : List Nat := joinB c (L.take i)
theorem tZ_zero (c : Nat) (L : List Tk) : tZ c L 0 = [] := rfl
theorem tZ_all (c : Nat) (L : List Tk) : tZ c L L.length = joinB c L := by unfold tZ; rw [List.take_length]
theorem tZ_more (c : Nat) (L : List Tk) (i : Nat) (hi : i < L.length) (A : ByteArray) (hA : A = str (sepN ((c + i) % 4))) : str (tZ c L i) ++ A ++ str (L[i]'hi).t = str (tZ c L (i + 1)) := by
  have e : L.take (i + 1) = L.take i ++ [L[i]] := by rw [List.take_succ_eq_append_getElem hi]
  unfold tZ
  rw [e, joinB_snoc, List.length_take, Nat.min_eq_left (by omega), hA]
  unfold str
  apply ByteArray.ext
  simp [ByteArray.data_append]
theorem tZ_len {a : List Nat} (ha : (lexS a).2.1 = 0) (za : a.length ≤ 600) (c i : Nat) (hi : i ≤ (lexS a).1.length) : (tZ c (lexS a).1 i).length ≤ 4000 := by
  have h := blanks_len ha za c
  have e : joinB c (lexS a).1 = joinB c ((lexS a).1.take i ++ (lexS a).1.drop i) := by rw [List.take_append_drop]
  have key : ∀ (A B : List Tk) (c : Nat), (joinB c A).length ≤ (joinB c (A ++ B)).length := by
    intro A
    induction A with
    | nil => intro B c; simp [joinB]
    | cons t r ih =>
      intro B c
      rw [List.cons_append]
      unfold joinB
      have := ih B (c + 1)
      simp only [List.length_append]
      omega
  rw [e] at h
  exact Nat.le_trans (key _ _ c) h
theorem PgV.move {w w' : World} {ok ok' : Nat → Prop} {L : List Pr} {v : Value} (h : PgV w ok L v) (hs : Same w w' ok ok') : PgV w' ok' L v := by
  obtain ⟨ag, mg, cg, e, h1⟩ := h
  exact ⟨ag, mg, cg, e, h1.move hs⟩

set_option maxHeartbeats 3200000 in
theorem parseBlanks_any (w : World) (s : ByteArray) (a1 : Int) (hs : s.size ≤ maxLen) (h10 : 0 ≤ a1) (h11 : a1 ≤ 255) :
    Calls Tryd.prog 3 #[.string s, .int .u8 a1] w fun e w' => e = .returned (.bool true) ∧ Below w.heap.size w w' := by
  unfold maxLen at hs
  by_cases h1 : 600 < s.size
  · have h1i : (600 : Int) < (s.size : Int) := by omega
    go_enter Tryd.func3, Tryd.ntmps3
    go_wp2_with (go_at_call 6; refine (awake8_any _).mono ?_; rintro e w5 ⟨rfl, hb5⟩)
    go_ret
    exact ⟨rfl, hb5⟩
  · have h1i : ¬ (600 : Int) < (s.size : Int) := by omega
    have hs6 : s.size ≤ 600 := by omega
    clear h1
    by_cases hx : (lexS (lst s)).2.1 = 0
    · obtain ⟨c, rfl⟩ : ∃ c : Nat, a1 = (c : Int) := ⟨a1.toNat, by omega⟩
      obtain ⟨hb1, hb2⟩ := blanks_math hx (by rw [lst_length]; exact hs6) c
      have hok := (lexS_ok (lst_small s) hx).1
      have hch := chain_texts (chain_lex (lst s) hx)
      rw [lst_length] at hch
      have hlen := fun i hi => tZ_len hx (by rw [lst_length]; exact hs6) c i hi
      have hsm := joinB_small (L := (lexS (lst s)).1) (fun t ht x hx => by
        obtain ⟨j, hj, rfl⟩ := List.getElem_of_mem ht
        exact hok.small j hj x hx) c
      have HP := pProg_any w s (by omega)
      have HL0 := fun W => lex_any W s (by omega)
      rw [lexS_pair hx] at HL0
      have HPQ : ∀ W, Calls Tryd.prog 7 #[.string (str (tZ c (lexS (lst s)).1 (lexS (lst s)).1.length))] W (ProgOut W (progS (joinB c (lexS (lst s)).1))) := by
        intro W
        have h := pProg_any W (str (tZ c (lexS (lst s)).1 (lexS (lst s)).1.length)) (by rw [strl_size]; have := hlen _ (Nat.le_refl _); omega)
        rw [tZ_all, lst_str hsm] at h
        rw [tZ_all]
        exact h
      obtain ⟨⟨P, x, pl⟩, hpr⟩ : ∃ a, progS (lst s) = a := ⟨_, rfl⟩
      obtain ⟨⟨P2, x2, pl2⟩, hpr2⟩ : ∃ a, progS (joinB c (lexS (lst s)).1) = a := ⟨_, rfl⟩
      rw [hpr] at HP hb1 hb2
      rw [hpr2] at HPQ hb1 hb2
      simp only at hb1 hb2
      subst hb1 hb2
      have hz3 : ∀ i (hi : i < (lexS (lst s)).1.length), (lexS (lst s)).1[i].t.length ≤ 600 := by
        have key : ∀ (L : List Tk), ∀ t ∈ L, t.t.length ≤ textsN L := by
          intro L
          induction L with
          | nil => intro t ht; simp at ht
          | cons a r ih =>
            intro t ht
            unfold textsN
            rcases List.mem_cons.1 ht with rfl | ht
            · omega
            · have := ih t ht; omega
        intro i hi
        have := key _ _ (List.getElem_mem hi)
        omega
      have HL := hid HL0
      have HQ := hid HPQ
      have HZ3 := hid hz3
      have HLEN := hid hlen
      clear hpr hpr2 HL0 HPQ hz3 hlen hsm hok
      generalize hLL : (lexS (lst s)).1 = L at *
      obtain ⟨N, hN⟩ : ∃ N, N = L.length := ⟨_, rfl⟩
      have HN := hid hN
      clear hLL hx
      go_enter Tryd.func3, Tryd.ntmps3
      go_wp2_with fail
      refine HP.mono ?_
      rintro e w1 ⟨v, rfl, hv, hb1⟩
      obtain ⟨ag, mg, cg, rfl⟩ := pg_shape hv
      have hst : Below w1.heap.size w1 (w1.alloc (.cells #[.slice ag mg cg] 25)) := (Below.refl _ _).alloc (Nat.le_refl _) _
      have hW1 := below_call hb1 hst hb1.size
      have bX : BoxL (w1.alloc (.cells #[.slice ag mg cg] 25)) w1.heap.size [.slice ag mg cg] := BoxL.new _ _ _ _ rfl
      have HV := hid (hv.move (Same.ofBelow hst))
      clear hv HP hb1 hst
      go_wp2_with fail
      generalize w1.alloc (.cells #[.slice ag mg cg] 25) = W1 at *
      refine (HL.out W1).mono ?_
      rintro e w2 ⟨u, rfl, hO, hb2⟩
      obtain ⟨ao, cap, rfl, b1, b2, b3⟩ := hO.shape
      simp only at b1 b2 b3
      have hW2 := below_call hW1 hb2 hW1.size
      have BX := hid (bX.keep hb2)
      have HV2 := hid (HV.out.move (Same.ofBelow hb2))
      unfold maxLen at b2
      have HA := hid b3
      clear hO HL b3 hW1 hb2 bX HV
      simp only
      rw [← hN] at b1 hch ⊢
      clear hN
      have hN6 : N ≤ 601 := by omega
      have HW2 := hid hW2
      have HC := hid hch
      clear hch hW2
      go_wp2_with (go_at_call 9; refine (pnum_any _ _).mono ?_; rintro e w4 ⟨rfl, hw4⟩; subst w4)
      go_loopw [11, 12] (fun tv iv wr => ∃ i : Nat, i ≤ N ∧ iv = .int .i64 (i : Int) ∧ tv = .string (str (tZ c L i)) ∧ Below w2.heap.size w2 wr) (fun tv iv wr => N - (intOf iv).toNat)
      case atStart => exact ⟨0, by omega, rfl, rfl, Below.refl _ _⟩
      case round =>
        obtain ⟨i, hin, rfl, rfl, hbr⟩ := hrel
        by_cases hlt : i < N
        · have hii : (i : Int) < (N : Int) := by omega
          have hi0 : (0 : Int) ≤ (i : Int) := by omega
          have hiL : i < L.length := by have := HN.out; omega
          obtain ⟨g, rfl, -, hg, hA⟩ := HA.out.resolve_left (by omega)
          have hat := at3_below (hA i hiL) hg hbr
          have HT := hid hat.2.1
          have hl4 := HLEN.out i (by omega)
          have hl6 := HZ3.out i hiL
          have hmore := tZ_more c L i hiL
          generalize L[i] = t at *
          obtain ⟨n1, hz1, hn1⟩ : ∃ n1, (str (tZ c L i)).size = n1 ∧ n1 ≤ 4000 := ⟨_, rfl, by rw [strl_size]; exact hl4⟩
          obtain ⟨n2, hz2, hn2⟩ : ∃ n2, (str t.t).size = n2 ∧ n2 ≤ 600 := ⟨_, rfl, by rw [strl_size]; exact hl6⟩
          have lg : g < wr.heap.size := Nat.lt_of_lt_of_le hg hbr.size
          have HB := hid hbr
          have HM := hid hmore
          have hmod : (c + i) % 4 = 0 ∨ (c + i) % 4 = 1 ∨ (c + i) % 4 = 2 ∨ (c + i) % 4 = 3 := by omega
          clear hat hl4 hl6 hmore hbr hA
          rcases hmod with hm | hm | hm | hm
          · have hmi : ((i : Int) + (c : Int)) % 4 = 0 := by omega
            have hmt : Int.tmod ((i : Int) + (c : Int)) 4 = 0 := by rw [Int.tmod_eq_emod_of_nonneg (by omega)]; exact hmi
            have hw1 : IntKind.i64.wrap (c : Int) = (c : Int) := by rw [IntKind.wrap_i64]; omega
            have hw2 : IntKind.i64.wrap ((i : Int) + (c : Int)) = (i : Int) + (c : Int) := by rw [IntKind.wrap_i64]; omega
            have hq1 : ¬ 9223372036854775807 < n1 + 1 := by omega
            have hq2 : ¬ 9223372036854775807 < n1 + 1 + n2 := by omega
            have HG := hid (HM.out ⟨#[32]⟩ (by rw [hm]; rfl))
            go_wp2_with fail
            have hz0 : (World.drew wr).cell? ⟨g, i * 3 + 1, none⟩ = some (.string (str t.t)) := HT.out
            have hzA : (World.drew (wr.alloc (.cells #[.string ⟨#[32]⟩, .string ⟨#[10]⟩, .string ⟨#[32, 35, 32, 114, 101, 109, 97, 114, 107, 32, 59, 32, 120, 32, 61, 32, 10]⟩, .string ⟨#[9, 13, 10]⟩] 9))).cell? ⟨g, i * 3 + 1, none⟩ = some (.string (str t.t)) := ((show Below wr.heap.size wr _ from (by repeat (first | exact Below.refl _ _ | refine Below.alloc ?_ ?_ _ | refine Below.setCell ?_ ?_ _ | refine Below.drew ?_ | refine below_drewN ?_ _ | (· simp) | omega | (· simp; omega) | exact Below.size (by assumption) | assumption | refine below_call ?_ (by assumption) ?_))).cell (p := ⟨g, i * 3 + 1, none⟩) lg).trans HT.out
            have hzB : (wr.alloc (.cells #[.string ⟨#[32]⟩, .string ⟨#[10]⟩, .string ⟨#[32, 35, 32, 114, 101, 109, 97, 114, 107, 32, 59, 32, 120, 32, 61, 32, 10]⟩, .string ⟨#[9, 13, 10]⟩] 9)).cell? ⟨g, i * 3 + 1, none⟩ = some (.string (str t.t)) := hzA
            have hzC : ((World.drew wr).alloc (.cells #[.string ⟨#[32]⟩, .string ⟨#[10]⟩, .string ⟨#[32, 35, 32, 114, 101, 109, 97, 114, 107, 32, 59, 32, 120, 32, 61, 32, 10]⟩, .string ⟨#[9, 13, 10]⟩] 9)).cell? ⟨g, i * 3 + 1, none⟩ = some (.string (str t.t)) := hzA
            go_region_with (first | fail)
            all_goals
              go_wp2
              refine ⟨⟨i + 1, by omega, by go_num, congrArg Value.string HG.out, below_call HB.out (show Below wr.heap.size wr _ from (by repeat (first | exact Below.refl _ _ | refine Below.alloc ?_ ?_ _ | refine Below.setCell ?_ ?_ _ | refine Below.drew ?_ | refine below_drewN ?_ _ | (· simp) | omega | (· simp; omega) | exact Below.size (by assumption) | assumption | refine below_call ?_ (by assumption) ?_))) HB.out.size⟩, ?_⟩
              simp only [intOf]
              omega
          · have hmi : ((i : Int) + (c : Int)) % 4 = 1 := by omega
            have hmt : Int.tmod ((i : Int) + (c : Int)) 4 = 1 := by rw [Int.tmod_eq_emod_of_nonneg (by omega)]; exact hmi
            have hw1 : IntKind.i64.wrap (c : Int) = (c : Int) := by rw [IntKind.wrap_i64]; omega
            have hw2 : IntKind.i64.wrap ((i : Int) + (c : Int)) = (i : Int) + (c : Int) := by rw [IntKind.wrap_i64]; omega
            have hq1 : ¬ 9223372036854775807 < n1 + 1 := by omega
            have hq2 : ¬ 9223372036854775807 < n1 + 1 + n2 := by omega
            have HG := hid (HM.out ⟨#[10]⟩ (by rw [hm]; rfl))
            go_wp2_with fail
            have hz0 : (World.drew wr).cell? ⟨g, i * 3 + 1, none⟩ = some (.string (str t.t)) := HT.out
            have hzA : (World.drew (wr.alloc (.cells #[.string ⟨#[32]⟩, .string ⟨#[10]⟩, .string ⟨#[32, 35, 32, 114, 101, 109, 97, 114, 107, 32, 59, 32, 120, 32, 61, 32, 10]⟩, .string ⟨#[9, 13, 10]⟩] 9))).cell? ⟨g, i * 3 + 1, none⟩ = some (.string (str t.t)) := ((show Below wr.heap.size wr _ from (by repeat (first | exact Below.refl _ _ | refine Below.alloc ?_ ?_ _ | refine Below.setCell ?_ ?_ _ | refine Below.drew ?_ | refine below_drewN ?_ _ | (· simp) | omega | (· simp; omega) | exact Below.size (by assumption) | assumption | refine below_call ?_ (by assumption) ?_))).cell (p := ⟨g, i * 3 + 1, none⟩) lg).trans HT.out
            have hzB : (wr.alloc (.cells #[.string ⟨#[32]⟩, .string ⟨#[10]⟩, .string ⟨#[32, 35, 32, 114, 101, 109, 97, 114, 107, 32, 59, 32, 120, 32, 61, 32, 10]⟩, .string ⟨#[9, 13, 10]⟩] 9)).cell? ⟨g, i * 3 + 1, none⟩ = some (.string (str t.t)) := hzA
            have hzC : ((World.drew wr).alloc (.cells #[.string ⟨#[32]⟩, .string ⟨#[10]⟩, .string ⟨#[32, 35, 32, 114, 101, 109, 97, 114, 107, 32, 59, 32, 120, 32, 61, 32, 10]⟩, .string ⟨#[9, 13, 10]⟩] 9)).cell? ⟨g, i * 3 + 1, none⟩ = some (.string (str t.t)) := hzA
            go_region_with (first | fail)
            all_goals
              go_wp2
              refine ⟨⟨i + 1, by omega, by go_num, congrArg Value.string HG.out, below_call HB.out (show Below wr.heap.size wr _ from (by repeat (first | exact Below.refl _ _ | refine Below.alloc ?_ ?_ _ | refine Below.setCell ?_ ?_ _ | refine Below.drew ?_ | refine below_drewN ?_ _ | (· simp) | omega | (· simp; omega) | exact Below.size (by assumption) | assumption | refine below_call ?_ (by assumption) ?_))) HB.out.size⟩, ?_⟩
              simp only [intOf]
              omega
          · have hmi : ((i : Int) + (c : Int)) % 4 = 2 := by omega
            have hmt : Int.tmod ((i : Int) + (c : Int)) 4 = 2 := by rw [Int.tmod_eq_emod_of_nonneg (by omega)]; exact hmi
            have hw1 : IntKind.i64.wrap (c : Int) = (c : Int) := by rw [IntKind.wrap_i64]; omega
            have hw2 : IntKind.i64.wrap ((i : Int) + (c : Int)) = (i : Int) + (c : Int) := by rw [IntKind.wrap_i64]; omega
            have hq1 : ¬ 9223372036854775807 < n1 + 17 := by omega
            have hq2 : ¬ 9223372036854775807 < n1 + 17 + n2 := by omega
            have HG := hid (HM.out ⟨#[32, 35, 32, 114, 101, 109, 97, 114, 107, 32, 59, 32, 120, 32, 61, 32, 10]⟩ (by rw [hm]; rfl))
            go_wp2_with fail
            have hz0 : (World.drew wr).cell? ⟨g, i * 3 + 1, none⟩ = some (.string (str t.t)) := HT.out
            have hzA : (World.drew (wr.alloc (.cells #[.string ⟨#[32]⟩, .string ⟨#[10]⟩, .string ⟨#[32, 35, 32, 114, 101, 109, 97, 114, 107, 32, 59, 32, 120, 32, 61, 32, 10]⟩, .string ⟨#[9, 13, 10]⟩] 9))).cell? ⟨g, i * 3 + 1, none⟩ = some (.string (str t.t)) := ((show Below wr.heap.size wr _ from (by repeat (first | exact Below.refl _ _ | refine Below.alloc ?_ ?_ _ | refine Below.setCell ?_ ?_ _ | refine Below.drew ?_ | refine below_drewN ?_ _ | (· simp) | omega | (· simp; omega) | exact Below.size (by assumption) | assumption | refine below_call ?_ (by assumption) ?_))).cell (p := ⟨g, i * 3 + 1, none⟩) lg).trans HT.out
            have hzB : (wr.alloc (.cells #[.string ⟨#[32]⟩, .string ⟨#[10]⟩, .string ⟨#[32, 35, 32, 114, 101, 109, 97, 114, 107, 32, 59, 32, 120, 32, 61, 32, 10]⟩, .string ⟨#[9, 13, 10]⟩] 9)).cell? ⟨g, i * 3 + 1, none⟩ = some (.string (str t.t)) := hzA
            have hzC : ((World.drew wr).alloc (.cells #[.string ⟨#[32]⟩, .string ⟨#[10]⟩, .string ⟨#[32, 35, 32, 114, 101, 109, 97, 114, 107, 32, 59, 32, 120, 32, 61, 32, 10]⟩, .string ⟨#[9, 13, 10]⟩] 9)).cell? ⟨g, i * 3 + 1, none⟩ = some (.string (str t.t)) := hzA
            go_region_with (first | fail)
            all_goals
              go_wp2
              refine ⟨⟨i + 1, by omega, by go_num, congrArg Value.string HG.out, below_call HB.out (show Below wr.heap.size wr _ from (by repeat (first | exact Below.refl _ _ | refine Below.alloc ?_ ?_ _ | refine Below.setCell ?_ ?_ _ | refine Below.drew ?_ | refine below_drewN ?_ _ | (· simp) | omega | (· simp; omega) | exact Below.size (by assumption) | assumption | refine below_call ?_ (by assumption) ?_))) HB.out.size⟩, ?_⟩
              simp only [intOf]
              omega
          · have hmi : ((i : Int) + (c : Int)) % 4 = 3 := by omega
            have hmt : Int.tmod ((i : Int) + (c : Int)) 4 = 3 := by rw [Int.tmod_eq_emod_of_nonneg (by omega)]; exact hmi
            have hw1 : IntKind.i64.wrap (c : Int) = (c : Int) := by rw [IntKind.wrap_i64]; omega
            have hw2 : IntKind.i64.wrap ((i : Int) + (c : Int)) = (i : Int) + (c : Int) := by rw [IntKind.wrap_i64]; omega
            have hq1 : ¬ 9223372036854775807 < n1 + 3 := by omega
            have hq2 : ¬ 9223372036854775807 < n1 + 3 + n2 := by omega
            have HG := hid (HM.out ⟨#[9, 13, 10]⟩ (by rw [hm]; rfl))
            go_wp2_with fail
            have hz0 : (World.drew wr).cell? ⟨g, i * 3 + 1, none⟩ = some (.string (str t.t)) := HT.out
            have hzA : (World.drew (wr.alloc (.cells #[.string ⟨#[32]⟩, .string ⟨#[10]⟩, .string ⟨#[32, 35, 32, 114, 101, 109, 97, 114, 107, 32, 59, 32, 120, 32, 61, 32, 10]⟩, .string ⟨#[9, 13, 10]⟩] 9))).cell? ⟨g, i * 3 + 1, none⟩ = some (.string (str t.t)) := ((show Below wr.heap.size wr _ from (by repeat (first | exact Below.refl _ _ | refine Below.alloc ?_ ?_ _ | refine Below.setCell ?_ ?_ _ | refine Below.drew ?_ | refine below_drewN ?_ _ | (· simp) | omega | (· simp; omega) | exact Below.size (by assumption) | assumption | refine below_call ?_ (by assumption) ?_))).cell (p := ⟨g, i * 3 + 1, none⟩) lg).trans HT.out
            have hzB : (wr.alloc (.cells #[.string ⟨#[32]⟩, .string ⟨#[10]⟩, .string ⟨#[32, 35, 32, 114, 101, 109, 97, 114, 107, 32, 59, 32, 120, 32, 61, 32, 10]⟩, .string ⟨#[9, 13, 10]⟩] 9)).cell? ⟨g, i * 3 + 1, none⟩ = some (.string (str t.t)) := hzA
            have hzC : ((World.drew wr).alloc (.cells #[.string ⟨#[32]⟩, .string ⟨#[10]⟩, .string ⟨#[32, 35, 32, 114, 101, 109, 97, 114, 107, 32, 59, 32, 120, 32, 61, 32, 10]⟩, .string ⟨#[9, 13, 10]⟩] 9)).cell? ⟨g, i * 3 + 1, none⟩ = some (.string (str t.t)) := hzA
            go_region_with (first | fail)
            all_goals
              go_wp2
              refine ⟨⟨i + 1, by omega, by go_num, congrArg Value.string HG.out, below_call HB.out (show Below wr.heap.size wr _ from (by repeat (first | exact Below.refl _ _ | refine Below.alloc ?_ ?_ _ | refine Below.setCell ?_ ?_ _ | refine Below.drew ?_ | refine below_drewN ?_ _ | (· simp) | omega | (· simp; omega) | exact Below.size (by assumption) | assumption | refine below_call ?_ (by assumption) ?_))) HB.out.size⟩, ?_⟩
              simp only [intOf]
              omega
        · obtain rfl : i = N := by omega
          have hii : ¬ (i : Int) < (i : Int) := by omega
          have HB := hid hbr
          have HQ2 := HQ.out
          rw [← HN.out] at HQ2
          have HQ3 := hid HQ2
          clear hbr HQ2 HQ HZ3 HLEN HA
          go_wp2_with fail
          refine (HQ3.out _).mono ?_
          rintro e w3 ⟨v2, rfl, hv2, hb3⟩
          obtain ⟨ag2, mg2, cg2, rfl⟩ := pg_shape hv2
          have hst : Below w3.heap.size w3 (w3.alloc (.cells #[.slice ag2 mg2 cg2] 25)) := (Below.refl _ _).alloc (Nat.le_refl _) _
          have hB3 := below_call (below_call HB.out hb3 HB.out.size) hst (below_call HB.out hb3 HB.out.size).size
          have bY : BoxL (w3.alloc (.cells #[.slice ag2 mg2 cg2] 25)) w3.heap.size [.slice ag2 mg2 cg2] := BoxL.new _ _ _ _ rfl
          have bX := BX.out.keep hB3
          have HU := hid (hv2.move (Same.ofBelow hst))
          have HV := hid (HV2.out.move (Same.ofBelow hB3))
          have hW4 := below_call HW2.out hB3 HW2.out.size
          clear hv2 hb3 hst HQ3
          have k0 := bX.cells 0 _ rfl
          have k1 := bY.cells 0 _ rfl
          rw [Nat.zero_add] at k0 k1
          have lx := bX.lt
          have ly := bY.lt
          clear k0 k1
          go_wp2_with fail
          generalize w3.alloc (.cells #[.slice ag2 mg2 cg2] 25) = W3 at *
          have k0 := bX.cells 0 _ rfl
          have k1 := bY.cells 0 _ rfl
          rw [Nat.zero_add] at k0 k1
          have HX := hid bX
          have HY := hid bY
          have HW4 := hid hW4
          clear bX bY hB3 hW4
          have hxx : (((x2 : Nat) : Int) == ((x2 : Nat) : Int)) = true := by simp
          go_wp2_with (go_at_call 9; refine (pnum_any _ _).mono ?_; rintro e w4 ⟨rfl, hw4⟩; subst w4)
          refine (rSame_any _ _ _ _ _ _ HV.out HU.out).mono ?_
          rintro e w6 ⟨rfl, hb6⟩
          have hW6 := below_call HW4.out hb6 HW4.out.size
          clear k0 k1 hb6
          go_wp2_with (go_at_call 6; refine (awake8_any _).mono ?_; rintro e w5 ⟨rfl, hb5⟩)
          go_ret
          exact ⟨rfl, below_call hW6 hb5 hW6.size⟩
    · have hx0 : (((lexS (lst s)).2.1 : Int) != 0) = true := by simpa using hx
      have hpe : progS (lst s) = ([], (lexS (lst s)).2) := by unfold progS; rw [if_pos hx]
      have HP := pProg_any w s (by omega)
      rw [hpe] at HP
      have HL := hid (fun W => lex_any W s (by omega))
      go_enter Tryd.func3, Tryd.ntmps3
      go_wp2_with fail
      refine HP.mono ?_
      rintro e w1 ⟨v, rfl, hv, hb1⟩
      obtain ⟨ag, mg, cg, rfl⟩ := pg_shape hv
      have hW1 : Below w.heap.size w (w1.alloc (.cells #[.slice ag mg cg] 25)) := below_call (Below.refl _ _) (hb1.alloc hb1.size _) (Nat.le_refl _)
      clear hv HP hb1
      go_wp2_with fail
      generalize w1.alloc (.cells #[.slice ag mg cg] 25) = W1 at *
      refine (HL.out W1).mono ?_
      rintro e w2 ⟨u, rfl, hO, hb2⟩
      have hW2 := below_call hW1 hb2 hW1.size
      clear hO HL hW1 hb2
      go_wp2_with (first | (go_at_call 9; refine (pnum_any _ _).mono ?_; rintro e w4 ⟨rfl, hw4⟩; subst w4) | (go_at_call 6; refine (awake8_any _).mono ?_; rintro e w5 ⟨rfl, hb5⟩))
      go_ret
      exact ⟨rfl, below_call hW2 hb5 hW2.size⟩
end Go.Proofs.YtjofhaakkleecaaDoor
