/-
  Walks: the document's own number of a text (more than one digit, no sign).
-/
import Derived.Test.YtogdchddmjokmaaGreatDoorT3
namespace Go.Proofs.YtogdchddmjokmaaGreatDoor
open Go.RowKit Lm
set_option linter.unusedSimpArgs false
set_option linter.unusedVariables false
set_option maxRecDepth 100000


set_option maxHeartbeats 6400000 in
theorem rread_a (w : World) (s : ByteArray) (hs : s.size ≤ 5000) (hp0 : 0 < s.size) (hneg : isNeg (lst s) = false) (h0 : ¬ (cutV s).toList = []) (h1 : 1 < (cutV s).size) :
    Calls Tryz.prog 18 #[.string s] w (RdPost w s) := by
  have hW0 : Below w.heap.size w (w.alloc (.cells #[.bool false, .slice none 0 0] 24)) := (by repeat (first | exact Below.refl _ _ | refine Below.alloc ?_ ?_ _ | refine Below.setCell ?_ ?_ _ | refine Below.drew ?_ | refine below_drewN ?_ _ | (· simp) | omega | (· simp; omega) | exact Below.size (by assumption) | assumption | refine below_call ?_ (by assumption) ?_))
  have HW0 := hid hW0
  have bX : Box (w.alloc (.cells #[.bool false, .slice none 0 0] 24)) w.heap.size (.bool false) (.slice none 0 0) := Box.new w (.bool false) (.slice none 0 0) w.heap.size rfl
  have x0 := bX.c0
  have x1 := bX.c1
  have xf := bX.f
  have xl := bX.lt
  clear hW0
  have hpi : (0 : Int) < (s.size : Int) := by omega
  have HD0 := hid (lst_cut s)
  have hds0 := cut_size s
  have HNEG := hid hneg
  have hm : ¬ s[0].toNat = 45 := by
    have h3 := HNEG.out
    rw [isNeg, head_at s hp0] at h3
    simpa using h3
  clear hneg
  go_enter Tryz.func18, Tryz.ntmps18
  go_upto_if 17 with fail
  go_cut [4, 5] from 8 (fun nv dv wc => nv = .bool false ∧ dv = .string (cutV s) ∧ wc = w.alloc (.cells #[.bool false, .slice none 0 0] 24))
  case first =>
    have hmi : ¬ (s[0].toNat : Int) = 45 := by omega
    have hmb : ((s[0].toNat : Int) == 45) = false := by simp; omega
    clear hm
    go_wp2
    go_meet
    exact ⟨by rw [hmb], by rw [cutV, HNEG.out]; rfl, rfl⟩
  case rest =>
    obtain ⟨rfl, rfl, rfl⟩ := hcut
    have HD : Hid (lst (cutV s) = bodyOf (lst s)) := HD0
    have hds : (cutV s).size ≤ 5000 := by omega
    have hds2 : (cutV s).size ≤ s.size := hds0
    clear HD0 hds0 hm
    generalize cutV s = d at *
    generalize w.alloc (.cells #[.bool false, .slice none 0 0] 24) = W0 at *
    have hp : 0 < d.size := by
      rw [← toList_len]
      cases hx : d.toList with
      | nil => exact absurd hx h0
      | cons a b => simp
    have he : d.toList.isEmpty = false := by
      cases hx : d.toList with
      | nil => exact absurd hx h0
      | cons a b => rfl
    have h1i : (1 : Int) < (d.size : Int) := by omega
    by_cases h2 : d[0].toNat = 48
    · have h2i : (d[0].toNat : Int) = 48 := by omega
      have HF : Hid (¬ mayRead (lst s)) := hid (fun h => by have h3 := h.1.2.2 (by rw [← HD.out, head_at d hp, h2]); rw [← HD.out, lst_length] at h3; omega)
      go_wp2
      refine bodyPost_ret (v := .tuple #[.agg #[.bool false, .slice none 0 0], .bool false]) ?_ rfl (.inl ⟨HF.out, rfl, (HW0.out.setCell (Nat.le_refl _) _).setCell (Nat.le_refl _) _⟩)
      simp [results, Tryz.results18, go_sem, x0, x1]
    · have h2i : ¬ (d[0].toNat : Int) = 48 := by omega
      have h2b : ((d[0].toNat : Int) == 48) = false := by simp; omega
      have HG : Hid ((lst d).head? = some 48 → (lst d).length = 1) := hid (fun h => by rw [head_at d hp] at h; exact absurd (Option.some.inj h) h2)
      go_wp2
      (try rw [he])
      (try rw [h2b])
      (try rw [hzz])
      go_loopw [6, 7] (fun lv iv wr => RdRel W0 d lv iv wr) (fun lv iv wr => d.size - (intOf iv).toNat)
      case atStart => exact ⟨0, none, 0, 0, [], Nat.zero_le _, rfl, rfl, rfl, ⟨ok_nil, Nat.le_refl _, by unfold maxLen; omega, .inl ⟨rfl, fun _ => rfl⟩⟩, by simp, by simp [Hid, val, dval, decv], by simp [Hid], Below.refl _ _⟩
      case round =>
        obtain ⟨i, ao, cap, k, l, hi, rfl, rfl, HK, hsl, hll, HV, HDG, hbw⟩ := hrel
        have HSL := hid hsl
        have HBW := hid hbw
        clear hsl hbw
        by_cases hlt : i < d.size
        · have hlti : (i : Int) < (d.size : Int) := by omega
          by_cases hx : 48 ≤ d[i].toNat ∧ d[i].toNat ≤ 57
          · obtain ⟨hx1, hx2⟩ := hx
            have hx1i : ¬ (d[i].toNat : Int) < 48 := by omega
            have hx2i : ¬ 57 < (d[i].toNat : Int) := by omega
            obtain ⟨y, hy⟩ : ∃ y : Nat, y = d[i].toNat - 48 := ⟨_, rfl⟩
            have hw8 : IntKind.u8.wrap ((d[i].toNat : Int) - 48) = (y : Int) := by rw [IntKind.wrap_u8]; omega
            have hw32 : IntKind.u32.wrap (y : Int) = (y : Int) := by rw [IntKind.wrap_u32]; omega
            have hy9 : y ≤ 9 := by omega
            have HY := hid hy
            have hbw := HBW.out
            have hsz := hbw.size
            clear hy
            go_wp2
            go_region_with (first
              | (go_at_call 38; refine (rmul_k _ _ _ _ l _ _ _ [10] HK.out rfl ?_ ?_ (by omega) (by simp)).mono ?_; (focus (first | exact HSL.out.drew | exact HSL.out.drew.alloc _ | exact (HSL.out.drew.alloc _).alloc _)); (focus (first | exact row_one wr.drew 10 _ (by omega) rfl | exact (row_one wr.drew 10 _ (by omega) rfl).alloc _ | exact row_one (wr.drew.alloc _) 10 _ (by omega) (by simp))); rintro e w2 ⟨ao2, cap2, k2, l2, rfl, HK2, hs2, -, -, hl2, hv2, hb2⟩; have hB2 : Below W0.heap.size W0 w2 := (by repeat (first | exact Below.refl _ _ | refine Below.alloc ?_ ?_ _ | refine Below.setCell ?_ ?_ _ | refine Below.drew ?_ | refine below_drewN ?_ _ | (· simp) | omega | (· simp; omega) | exact Below.size (by assumption) | assumption | refine below_call ?_ (by assumption) ?_)); have hsz2 := hB2.size; have HS2 := hid hs2; have HV2 := hid hv2; have HL2 := hid hl2; clear hs2 hv2 hl2)
              | (go_at_call 39; refine (rtrim_one _ _ y ?_).mono ?_; (focus (first | exact row_one w2 y _ (by omega) rfl | exact (row_one (wr.drew.alloc _) y _ (by omega) (by simp)).below hb2 | exact ((row_one wr.drew y _ (by omega) rfl).alloc _).below hb2)); rintro e w3 ⟨n3, l3, rfl, rfl, hk3, hs3, hv3, hl3⟩; have HK3 := hid hk3; have HS3 := hid hs3; have HV3 := hid hv3; have HL3 := hid hl3; clear hk3 hs3 hv3 hl3)
              | (go_at_call 37; refine (radd_k _ _ _ _ l2 _ _ _ l3 HK2.out HK3.out ?_ HS3.out (by have := HL2.out; simp at this; omega) (by have := HL3.out; omega)).mono ?_; (focus (first | exact HS2.out | exact HS2.out.alloc _)); rintro e w4 ⟨ao4, cap4, k4, l4, rfl, HK4, hs4, -, -, hl4, hv4, hb4⟩; have hB4 : Below W0.heap.size W0 w4 := (by repeat (first | exact Below.refl _ _ | refine Below.alloc ?_ ?_ _ | refine Below.setCell ?_ ?_ _ | refine Below.drew ?_ | refine below_drewN ?_ _ | (· simp) | omega | (· simp; omega) | exact Below.size (by assumption) | assumption | refine below_call ?_ (by assumption) ?_)); have HS4 := hid hs4; have HV4 := hid hv4; have HL4 := hid hl4; have HB4 := hid hB4; clear hs4 hv4 hl4 hb4 hB4 hb2 hB2 hbw hsz hsz2))
            all_goals go_wp2
            all_goals go_roundw
            all_goals (first
              | (refine ⟨i + 1, ao4, cap4, k4, l4, by omega, by go_num, rfl, HK4, HS4.out, ?_, ?_, ?_, HB4.out⟩; (focus (have h3 := HL4.out; have h4 := HL2.out; have h5 := HL3.out; simp at h4; omega)); (focus (show val l4 = _; rw [HV4.out, HV2.out, HV3.out, HV.out, take_dv d i hlt, HY.out]; simp [val])); (focus (show ∀ c ∈ _, _; rw [take_nx d i hlt]; intro c hc; rcases List.mem_append.1 hc with hc | hc; exact HDG.out c hc; (simp at hc; omega))))
              | (simp [intOf]; omega))
          · have HF : Hid (¬ mayRead (lst s)) := hid (fun h => hx (by
              have h3 := h.1.2.1
              rw [← HD.out] at h3
              exact dig_at h3 i hlt))
            have hW1 := below_call HW0.out HBW.out HW0.out.size
            have bX2 := bX.keep HBW.out
            have HW2 := hid ((hW1.setCell (p := ⟨w.heap.size, 0, none⟩) (Nat.le_refl _) (.bool false)).setCell (p := ⟨w.heap.size, 1, none⟩) (Nat.le_refl _) (.slice none 0 0))
            have y0 := bX2.c0
            have y1 := bX2.c1
            have yf := bX2.f
            have yl := bX2.lt
            clear hW1 x0 x1 xf xl
            have hy : (d[i].toNat : Int) < 48 ∨ 57 < (d[i].toNat : Int) := by omega
            rcases hy with hy | hy
            · go_wp2
              refine bodyPost_ret (v := .tuple #[.agg #[.bool false, .slice none 0 0], .bool false]) ?_ rfl (.inl ⟨HF.out, rfl, HW2.out⟩)
              simp [results, Tryz.results18, go_sem, y0, y1]
            · have hy2 : ¬ (d[i].toNat : Int) < 48 := by omega
              go_wp2
              refine bodyPost_ret (v := .tuple #[.agg #[.bool false, .slice none 0 0], .bool false]) ?_ rfl (.inl ⟨HF.out, rfl, HW2.out⟩)
              simp [results, Tryz.results18, go_sem, y0, y1]
        · have hke : i = d.size := by omega
          subst hke
          have HE : Hid ((lst d).take d.size = lst d) := hid (List.take_of_length_le (by rw [lst_length]; exact Nat.le_refl _))
          rw [HE.out] at HV HDG
          have HF : Hid (mayRead (lst s)) := hid ⟨⟨by rw [← HD.out]; intro h; have h3 := lst_length d; rw [h] at h3; simp at h3; omega, by rw [← HD.out]; exact HDG.out, by rw [← HD.out]; exact HG.out⟩, fun h => by have h3 := HNEG.out; rw [h.1] at h3; simp at h3⟩
          have HR : Hid (readV (lst s) = sgn false (val l)) := hid (by rw [readV, HNEG.out, ← HD.out, HV.out])
          clear x0 x1 xf xl
          go_wp2_with fail
          refine (rmk_k _ false _ _ k l HK.out HSL.out (by omega)).mono ?_
          rintro e w5 ⟨nr, ar, kr, cr, rfl, HI, hb5⟩
          have hB5 := below_call HBW.out hb5 HBW.out.size
          have hW5 := below_call HW0.out hB5 HW0.out.size
          have bX2 := bX.keep hB5
          have x0 := bX2.c0
          have x1 := bX2.c1
          have xf := bX2.f
          have xl := bX2.lt
          have HW5 := hid ((hW5.setCell (p := ⟨w.heap.size, 0, none⟩) (Nat.le_refl _) (.bool nr)).setCell (p := ⟨w.heap.size, 1, none⟩) (Nat.le_refl _) (.slice ar kr cr))
          have hlo : w.heap.size < wr.heap.size := Nat.lt_of_lt_of_le bX.lt HBW.out.size
          have HI2 := hid (((HI.out.setCell (p := ⟨w.heap.size, 0, none⟩) hlo (.bool nr)).setCell (p := ⟨w.heap.size, 1, none⟩) hlo (.slice ar kr cr)).mono (show w.heap.size ≤ wr.heap.size by omega) (show l.length ≤ 3 * s.size by omega))
          clear hb5 hB5 hW5 bX2 HI
          go_wp2
          refine bodyPost_ret (v := .tuple #[.agg #[.bool nr, .slice ar kr cr], .bool true]) ?_ rfl (.inr ⟨HF.out, nr, ar, kr, cr, rfl, by rw [HR.out]; exact HI2.out, HW5.out⟩)
          simp [results, Tryz.results18, go_sem, x0, x1]

end Go.Proofs.YtogdchddmjokmaaGreatDoor
