/-
  The look that asks whether a ray stays within.
-/
import Derived.Test.YtmnlggmdomcajaaGreatL9
namespace Go.Proofs.YtmnlggmdomcajaaGreat
open Go.RowKit Lm
set_option linter.unusedSimpArgs false
set_option linter.unusedVariables false
set_option maxRecDepth 100000

theorem vtimes_nil (w : World) (ao xo : Option Addr) (ca kx cx n : Nat) (hM : QTab w ao ca n []) :
    Calls Tryz.prog 107 #[.slice ao 0 ca, .slice xo kx cx] w (QOne 1 [] w) := by
  have hWl : Below w.heap.size w (w.alloc (.cells #[.slice xo kx cx] 41)) := (by repeat (first | exact Below.refl _ _ | refine Below.alloc ?_ ?_ _ | refine Below.setCell ?_ ?_ _ | refine Below.drew ?_ | refine below_drewN ?_ _ | (· simp) | omega | (· simp; omega) | exact Below.size (by assumption) | assumption | refine below_call ?_ (by assumption) ?_))
  have HM := hid (hM.below hWl)
  clear hM
  go_enter Tryz.func107, Tryz.ntmps107
  go_wp2_with fail
  generalize w.alloc (.cells #[.slice xo kx cx] 41) = W0 at *
  refine (mappedT_any _ _ _ 0 n [] _ (isG 1 []) (isG_stays _ _) rfl (by omega) HM.out (fun i h W x hb hx => by simp at h)).mono ?_
  rintro e w1 ⟨g, rfl, hg, hQ, hG, hb⟩
  have HR : Hid (QOne 1 [] w (.returned (.slice (some ⟨g, 0, none⟩) 0 0)) w1) := hid ⟨_, _, _, rfl, rfl, ⟨_, _, _, rfl, rfl, Nat.le_refl _, by unfold maxLen; omega, .inl rfl⟩, below_call hWl hb hWl.size⟩
  clear hQ hG hb HM
  go_wp2
  go_ret
  exact HR.out
theorem Times_nil (w : World) (ao xo : Option Addr) (ca kx cx n : Nat) (hM : QTab w ao ca n []) (hkx : kx ≤ 9223372036854775807) :
    Calls Tryz.prog 58 #[.slice ao 0 ca, .slice xo kx cx] w (QPair 1 [] w) := by
  have HM := hid hM
  clear hM
  have hw : wide [] (kx : Int) = true := rfl
  have HW2 := hid hw
  clear hw
  go_enter Tryz.func58, Tryz.ntmps58
  go_wp2_with fail
  refine (areOf_any _ _ _ 0 n _ [] rfl HM.out).mono ?_
  rintro e w1 ⟨rfl, rfl⟩
  rw [HW2.out]
  go_wp2_with fail
  refine (vtimes_nil _ _ _ _ _ _ n HM.out).mono ?_
  rintro e w2 ⟨ra, rk, rc, rfl, hrk, hQ, hb⟩
  have HR : Hid (QPair 1 [] w1 (.returned (.tuple #[.slice ra rk rc, .int .i64 0])) w2) := ⟨_, _, _, rfl, hrk, hQ, hb⟩
  clear hQ hb HM hrk
  go_wp2
  refine bodyPost_ret (v := .tuple #[.slice ra rk rc, .int .i64 0]) ?_ rfl HR.out
  simp [results, Tryz.results58, go_sem]
theorem Times_zero (w : World) (ao xo : Option Addr) (k ca kx cx n : Nat) (M : List (List Rat)) (hk : k = M.length) (h0 : M = []) (hM : QTab w ao ca n M) (hkx : kx ≤ 9223372036854775807) :
    Calls Tryz.prog 58 #[.slice ao k ca, .slice xo kx cx] w (QPair 1 [] w) := by
  subst h0
  subst hk
  exact Times_nil w ao xo ca kx cx n hM hkx
/-- Of each row the Dot with the ray is at most nought. -/
def downB (T : List Rat) : Nat → Bool := fun i => decide (cmpR (T.getD i 0) 0 ≤ 0)

set_option maxHeartbeats 1600000 in
theorem rayStays_any (w : World) (p : LPd) (a : Ansd) (hp : p.At w) (ha : a.At w) (hR : rightB p.n p.ka p.kb p.kc p.M = true) :
    Calls Tryz.prog 72 #[.agg #[.int .i64 p.n, .slice p.ao p.ka p.ca, .slice p.bo p.kb p.cb, .slice p.co p.kc p.cc], .agg #[.int .i64 a.kd, .bool a.n1, .slice a.a1 a.k1 a.c1, .bool a.n2, .slice a.a2 a.k2 a.c2, .slice a.xo a.kx a.cx, .slice a.yo a.ky a.cy, .slice a.ro a.kr a.cr]] w (Looked (decide ((a.kr : Int) = p.n) && allB (downB (timesR p.M a.R)) p.ka) w) := by
  have hW0 : Below w.heap.size w ((w.alloc (.cells #[.int .i64 p.n, .slice p.ao p.ka p.ca, .slice p.bo p.kb p.cb, .slice p.co p.kc p.cc] 43)).alloc (.cells #[.int .i64 a.kd, .bool a.n1, .slice a.a1 a.k1 a.c1, .bool a.n2, .slice a.a2 a.k2 a.c2, .slice a.xo a.kx a.cx, .slice a.yo a.ky a.cy, .slice a.ro a.kr a.cr] 46)) := (by repeat (first | exact Below.refl _ _ | refine Below.alloc ?_ ?_ _ | refine Below.setCell ?_ ?_ _ | refine Below.drew ?_ | refine below_drewN ?_ _ | (· simp) | omega | (· simp; omega) | exact Below.size (by assumption) | assumption | refine below_call ?_ (by assumption) ?_))
  have bP : BoxL ((w.alloc (.cells #[.int .i64 p.n, .slice p.ao p.ka p.ca, .slice p.bo p.kb p.cb, .slice p.co p.kc p.cc] 43)).alloc (.cells #[.int .i64 a.kd, .bool a.n1, .slice a.a1 a.k1 a.c1, .bool a.n2, .slice a.a2 a.k2 a.c2, .slice a.xo a.kx a.cx, .slice a.yo a.ky a.cy, .slice a.ro a.kr a.cr] 46)) w.heap.size (.int .i64 p.n) (.slice p.ao p.ka p.ca) (.slice p.bo p.kb p.cb) (.slice p.co p.kc p.cc) := (BoxL.new w _ _ _ _ _ rfl).keep ((Below.refl _ _).alloc (Nat.le_refl _) _)
  have bA : BoxA ((w.alloc (.cells #[.int .i64 p.n, .slice p.ao p.ka p.ca, .slice p.bo p.kb p.cb, .slice p.co p.kc p.cc] 43)).alloc (.cells #[.int .i64 a.kd, .bool a.n1, .slice a.a1 a.k1 a.c1, .bool a.n2, .slice a.a2 a.k2 a.c2, .slice a.xo a.kx a.cx, .slice a.yo a.ky a.cy, .slice a.ro a.kr a.cr] 46)) (w.heap.size + 1) a := BoxA.new _ a _ (by simp)
  have HP := hid (hp.below hW0)
  have HA := hid (ha.below hW0)
  have HW := hid hW0
  have fkx := ha.x.len.2
  have fky := ha.y.len.2
  have fkr := ha.r.len.2
  have fkb := hp.b.len.2
  have fkc := hp.c.len.2
  clear hp ha hW0
  obtain ⟨r1, r2, r3, r4, r5, r6⟩ := rightB_iff.1 hR
  have HWD := hid r6
  have HRL := hid HA.out.r.len.1
  clear hR r6 r3 r5
  go_enter Tryz.func72, Tryz.ntmps72
  by_cases hk : (a.kr : Int) = p.n
  · have hkb : ((a.kr : Int) == p.n) = true := by simp [hk]
    have hkr60 : a.kr ≤ 60 := by omega
    have HWK : Hid (wide p.M (a.kr : Int) = true) := hid (by rw [hk]; exact HWD.out)
    have HKE := hid hk
    clear hk
    go_wp2_with fail
    generalize (w.alloc (.cells #[.int .i64 p.n, .slice p.ao p.ka p.ca, .slice p.bo p.kb p.cb, .slice p.co p.kc p.cc] 43)).alloc (.cells #[.int .i64 a.kd, .bool a.n1, .slice a.a1 a.k1 a.c1, .bool a.n2, .slice a.a2 a.k2 a.c2, .slice a.xo a.kx a.cx, .slice a.yo a.ky a.cy, .slice a.ro a.kr a.cr] 46) = W0 at *
    refine (Times_any _ _ _ _ _ a.kr _ 6 6 p.M a.R HP.out.k (by omega) HP.out.a HA.out.r HWK.out (by omega) (by omega) (by rw [← HRL.out]; omega)).mono ?_
    rintro e w1 ⟨ta, tk, tc, rfl, htk, hQ, hb⟩
    rw [timesR_len, ← HP.out.k] at htk
    have hW1 := below_call HW.out hb HW.out.size
    have HQ := hid hQ.sl
    have HQL : Hid (tk = (timesR p.M a.R).length) := hid (by rw [timesR_len, htk]; exact HP.out.k)
    have HTK := hid htk
    obtain ⟨x0, x1, x2, x3⟩ := (bP.keep hb).c
    have xl := (bP.keep hb).lt
    obtain ⟨y0, y1, y2, y3, y4, y5, y6, y7⟩ := (bA.keep hb).c
    have yl := (bA.keep hb).lt
    have hsz : (6 + 6) * a.R.length + 1 ≤ 5000 := by rw [← HRL.out]; omega
    clear hb hQ htk
    generalize timesR p.M a.R = LL at *
    go_wp2_with fail
    clear x0 x1 x2 x3 xl y0 y1 y2 y3 y4 y5 y6 y7 yl
    refine (each_ray _ _ _ _ ((6 + 6) * a.R.length + 1) LL (downB LL) HQL.out HQ.out (fun i hi W x hb hx => ?_)).mono ?_
    · refine (ray1_any W _ x _ LL[i] hx hsz).mono ?_
      rintro e w' ⟨rfl, hb'⟩
      exact ⟨ret_bool (by rw [downB, getD_at hi]), hb'⟩
    · rintro e w2 ⟨rfl, hb2⟩
      have HR := hid (below_call hW1 hb2 hW1.size)
      obtain ⟨b, hB⟩ : ∃ b, allB (downB LL) tk = b := ⟨_, rfl⟩
      have HBB := hid hB
      rw [hB]
      clear hb2 hB hW1
      go_wp2
      go_ret
      exact ⟨ret_bool (by rw [decide_eq_true HKE.out, ← HTK.out, HBB.out]; simp), HR.out⟩
  · have hkb : ((a.kr : Int) == p.n) = false := by simp [hk]
    have HKE := hid hk
    by_cases h0 : p.M = []
    · have H0 := hid h0
      clear hk h0
      go_wp2_with fail
      generalize (w.alloc (.cells #[.int .i64 p.n, .slice p.ao p.ka p.ca, .slice p.bo p.kb p.cb, .slice p.co p.kc p.cc] 43)).alloc (.cells #[.int .i64 a.kd, .bool a.n1, .slice a.a1 a.k1 a.c1, .bool a.n2, .slice a.a2 a.k2 a.c2, .slice a.xo a.kx a.cx, .slice a.yo a.ky a.cy, .slice a.ro a.kr a.cr] 46) = W0 at *
      refine (Times_zero _ _ _ _ _ a.kr _ 6 p.M HP.out.k H0.out HP.out.a fkr).mono ?_
      rintro e w1 ⟨ta, tk, tc, rfl, htk, hQ, hb⟩
      have HR := hid (below_call HW.out hb HW.out.size)
      obtain ⟨x0, x1, x2, x3⟩ := (bP.keep hb).c
      have xl := (bP.keep hb).lt
      obtain ⟨y0, y1, y2, y3, y4, y5, y6, y7⟩ := (bA.keep hb).c
      have yl := (bA.keep hb).lt
      clear hb hQ htk
      go_wp2
      go_ret
      exact ⟨ret_bool (by rw [decide_eq_false HKE.out]; simp), HR.out⟩
    · have HNW : Hid (wide p.M (a.kr : Int) = false) := hid (by
        cases hx : wide p.M (a.kr : Int) with
        | false => rfl
        | true =>
          obtain ⟨R0, hR0⟩ := List.exists_mem_of_ne_nil _ h0
          have h1 := HWD.out
          unfold wide at h1 hx
          rw [List.all_eq_true] at h1 hx
          have h2 := of_decide_eq_true (h1 R0 hR0)
          have h3 := of_decide_eq_true (hx R0 hR0)
          omega)
      clear hk h0
      go_wp2_with fail
      generalize (w.alloc (.cells #[.int .i64 p.n, .slice p.ao p.ka p.ca, .slice p.bo p.kb p.cb, .slice p.co p.kc p.cc] 43)).alloc (.cells #[.int .i64 a.kd, .bool a.n1, .slice a.a1 a.k1 a.c1, .bool a.n2, .slice a.a2 a.k2 a.c2, .slice a.xo a.kx a.cx, .slice a.yo a.ky a.cy, .slice a.ro a.kr a.cr] 46) = W0 at *
      refine (Times_no _ _ _ _ _ a.kr _ 6 p.M HP.out.k HP.out.a fkr HNW.out).mono ?_
      rintro e w1 ⟨rfl, hb⟩
      have HR := hid (below_call HW.out hb HW.out.size)
      obtain ⟨x0, x1, x2, x3⟩ := (bP.keep hb).c
      have xl := (bP.keep hb).lt
      obtain ⟨y0, y1, y2, y3, y4, y5, y6, y7⟩ := (bA.keep hb).c
      have yl := (bA.keep hb).lt
      clear hb
      go_wp2
      go_ret
      exact ⟨ret_bool (by rw [decide_eq_false HKE.out]; simp), HR.out⟩

end Go.Proofs.YtmnlggmdomcajaaGreat
