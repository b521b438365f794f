/-
  Walks: fold over one quotient; sum.
-/
import Derived.Test.YtiicjfacekldnaaW34
namespace Go.Proofs.Ytiicjfacekldnaa
open Go.RowKit Lm
set_option linter.unusedSimpArgs false
set_option linter.unusedVariables false
set_option maxRecDepth 100000

/-- What fold's loop keeps. -/
def FRel (w : World) (n m : Nat) (x y x' y' : Int) (iv : Value) (wr : World) : Prop :=
  ∃ i : Nat, ∃ ns az ks cs nt at' kt ct, i ≤ 1 ∧ iv = .int .i64 (i : Int) ∧ Box4 wr (w.heap.size + 1 + 1) (.bool ns) (.slice az ks cs) (.bool nt) (.slice at' kt ct) ∧
    Box4 wr (w.heap.size + 1) (.bool false) (.slice none 0 0) (.bool false) (.slice none 0 0) ∧
    Arg wr (.agg #[.bool ns, .slice az ks cs]) (if i = 0 then n else 2 * n + 2 * m + 1) (if i = 0 then x else x * y' + x' * y) ∧
    Arg wr (.agg #[.bool nt, .slice at' kt ct]) (if i = 0 then n else 2 * n + 2 * m + 1) (if i = 0 then y else y * y') ∧ Below w.heap.size w wr

set_option maxHeartbeats 3200000 in
theorem fold_one (w : World) (g : Nat) (n1 n2 n3 n4 : Bool) (a1 a2 a3 a4 : Option Addr) (k1 c1 k2 c2 k3 c3 k4 c4 n m : Nat) (x y x' y' : Int) (hx : Arg w (.agg #[.bool n1, .slice a1 k1 c1]) n x) (hy : Arg w (.agg #[.bool n2, .slice a2 k2 c2]) n y) (hx' : Arg w (.agg #[.bool n3, .slice a3 k3 c3]) m x') (hy' : Arg w (.agg #[.bool n4, .slice a4 k4 c4]) m y') (hn : n ≤ 40000) (hm : m ≤ 40000) (hO : Box4 w g (.bool n3) (.slice a3 k3 c3) (.bool n4) (.slice a4 k4 c4)) :
    Calls Try.prog 125 #[.slice (some ⟨g, 0, none⟩) 1 1, Value.agg #[Value.bool n1, Value.slice a1 k1 c1, Value.bool n2, Value.slice a2 k2 c2], .func (.func 126) #[] #[]] w (PSay (2 * n + 2 * m + 1) (x * y' + x' * y) (y * y') w) := by
  have H1 := hid hx
  have H2 := hid hy
  have H3 := hid hx'
  have H4 := hid hy'
  have HO := hid hO
  have lO := hO.lt
  clear hx hy hx' hy' hO
  go_enter Try.func125, Try.ntmps125
  go_wp2_with fail
  have hW0 : Below w.heap.size w (((w.alloc (.cells #[.bool n1, .slice a1 k1 c1, .bool n2, .slice a2 k2 c2] 43)).alloc (.cells #[.bool false, .slice none 0 0, .bool false, .slice none 0 0] 43)).alloc (.cells #[.bool n1, .slice a1 k1 c1, .bool n2, .slice a2 k2 c2] 43)) := (by repeat (first | exact Below.refl _ _ | refine Below.alloc ?_ ?_ _ | refine Below.setCell ?_ ?_ _ | refine Below.drew ?_ | refine below_drewN ?_ _ | (· simp) | omega | (· simp; omega) | exact Below.size (by assumption) | assumption | refine below_call ?_ (by assumption) ?_))
  go_loopw [13] (fun iv wr => FRel w n m x y x' y' iv wr) (fun iv wr => 1 - (intOf iv).toNat)
  case atStart => exact ⟨0, n1, a1, k1, c1, n2, a2, k2, c2, Nat.zero_le _, rfl, Box4.new _ _ _ _ _ _ (by simp), (Box4.new _ _ _ _ _ _ (by simp)).alloc _, by rw [if_pos rfl, if_pos rfl]; exact H1.out.below hW0, by rw [if_pos rfl, if_pos rfl]; exact H2.out.below hW0, hW0⟩
  case round =>
    obtain ⟨i, ns, az, ks, cs, nt, at', kt, ct, hi, rfl, bS, bR, A1, A2, hWr⟩ := hrel
    rcases (show i = 0 ∨ i = 1 by omega) with rfl | rfl
    · rw [if_pos rfl, if_pos rfl] at A1 A2
      have J1 := hid A1
      have J2 := hid A2
      have hlt : ((0 : Nat) : Int) < 1 := by omega
      obtain ⟨o0, o1, o2, o3⟩ := (HO.out.keep hWr).c
      have oL := (HO.out.keep hWr).lt
      obtain ⟨s0, s1, s2, s3⟩ := bS.c
      have sf := bS.f
      have sL := bS.lt
      have bS' := bS.alloc (.cells #[.bool n3, .slice a3 k3 c3, .bool n4, .slice a4 k4 c4] 43)
      have bR' := bR.alloc (.cells #[.bool n3, .slice a3 k3 c3, .bool n4, .slice a4 k4 c4] 43)
      have hWa : Below w.heap.size w (wr.alloc (.cells #[.bool n3, .slice a3 k3 c3, .bool n4, .slice a4 k4 c4] 43)) := hWr.alloc hWr.size _
      have hst : Below wr.heap.size wr (wr.alloc (.cells #[.bool n3, .slice a3 k3 c3, .bool n4, .slice a4 k4 c4] 43)) := (Below.refl _ _).alloc (Nat.le_refl _) _
      clear A1 A2 hW0
      go_wp2_with fail
      refine (sumOfTwo_any _ ns nt n3 n4 az at' a3 a4 ks cs kt ct k3 c3 k4 c4 n m x y x' y' (J1.out.below hst) (J2.out.below hst) (H3.out.below hWa) (H4.out.below hWa) hn hm).mono ?_
      rintro e w2 ⟨nu, au, ku, cu, nv, av, kv, cv, rfl, K1, K2, hb⟩
      have hW2 := below_call hWa hb hWa.size
      have bS2 := bS'.keep hb
      have bR2 := bR'.keep hb
      have HB2 := hid bS2
      have HR2 := hid bR2
      have L1 := hid K1
      have L2 := hid K2
      clear o0 o1 o2 o3 s0 s1 s2 s3 sf sL oL hst hb K1 K2
      obtain ⟨s0, s1, s2, s3⟩ := bS2.c
      have sf := bS2.f
      have sL := bS2.lt
      clear bS bR bS' bR' bS2 bR2
      go_wp2
      go_roundw
      case rel => exact ⟨1, nu, au, ku, cu, nv, av, kv, cv, Nat.le_refl _, by go_num, HB2.out.filled _ _ _ _, HR2.out.beside (by omega) _ _ _ _, by rw [if_neg (by omega), if_neg (by omega)]; exact L1.out.off4 HB2.out (grow4 _ _ _ _ _ _), by rw [if_neg (by omega), if_neg (by omega)]; exact L2.out.off4 HB2.out (grow4 _ _ _ _ _ _), below_fill4 hW2 (by omega) _ _ _ _⟩
      case measure => simp [intOf]
    · rw [if_neg (by omega), if_neg (by omega)] at A1 A2
      have J1 := hid (A1.off4 bR (grow4 wr (w.heap.size + 1) (.bool ns) (.slice az ks cs) (.bool nt) (.slice at' kt ct)))
      have J2 := hid (A2.off4 bR (grow4 wr (w.heap.size + 1) (.bool ns) (.slice az ks cs) (.bool nt) (.slice at' kt ct)))
      have hlt : ¬ ((1 : Nat) : Int) < 1 := by omega
      obtain ⟨s0, s1, s2, s3⟩ := bS.c
      obtain ⟨r0, r1, r2, r3⟩ := bR.c
      have rf := bR.f
      have sL := bS.lt
      have rL := bR.lt
      have HW := hid (below_fill4 hWr (show w.heap.size ≤ w.heap.size + 1 by omega) (.bool ns) (.slice az ks cs) (.bool nt) (.slice at' kt ct))
      clear A1 A2 bS bR hW0
      go_wp2
      refine bodyPost_ret (v := .agg #[.bool ns, .slice az ks cs, .bool nt, .slice at' kt ct]) ?_ rfl ⟨ns, az, ks, cs, nt, at', kt, ct, rfl, J1.out, J2.out, HW.out⟩
      simp [results, Try.results125, go_sem, r0, r1, r2, r3]

set_option maxHeartbeats 3200000 in
theorem sum_one (w : World) (g : Nat) (n1 n2 n3 n4 : Bool) (a1 a2 a3 a4 : Option Addr) (k1 c1 k2 c2 k3 c3 k4 c4 n m : Nat) (x y x' y' : Int) (hx : Arg w (.agg #[.bool n1, .slice a1 k1 c1]) n x) (hy : Arg w (.agg #[.bool n2, .slice a2 k2 c2]) n y) (hx' : Arg w (.agg #[.bool n3, .slice a3 k3 c3]) m x') (hy' : Arg w (.agg #[.bool n4, .slice a4 k4 c4]) m y') (hn : n ≤ 20000) (hm : m ≤ 20000) (hO : Box4 w g (.bool n3) (.slice a3 k3 c3) (.bool n4) (.slice a4 k4 c4)) (h0 : y * y' ≠ 0) :
    Calls Try.prog 92 #[Value.agg #[Value.bool n1, Value.slice a1 k1 c1, Value.bool n2, Value.slice a2 k2 c2], .slice (some ⟨g, 0, none⟩) 1 1] w (RSay 0 (4 * n + 4 * m + 2) (Rat.divInt (x * y' + x' * y) (y * y')) w) := by
  have H1 := hid hx
  have H2 := hid hy
  have H3 := hid hx'
  have H4 := hid hy'
  have HO := hid hO
  have H0 := hid h0
  clear hx hy hx' hy' hO h0
  go_enter Try.func92, Try.ntmps92
  go_wp2_with fail
  have hW0 : Below w.heap.size w ((w.alloc (.cells #[.bool n1, .slice a1 k1 c1, .bool n2, .slice a2 k2 c2] 43)).alloc (.cells #[.bool false, .slice none 0 0, .bool false, .slice none 0 0] 43)) := (by repeat (first | exact Below.refl _ _ | refine Below.alloc ?_ ?_ _ | refine Below.setCell ?_ ?_ _ | refine Below.drew ?_ | refine below_drewN ?_ _ | (· simp) | omega | (· simp; omega) | exact Below.size (by assumption) | assumption | refine below_call ?_ (by assumption) ?_))
  have bR : Box4 ((w.alloc (.cells #[.bool n1, .slice a1 k1 c1, .bool n2, .slice a2 k2 c2] 43)).alloc (.cells #[.bool false, .slice none 0 0, .bool false, .slice none 0 0] 43)) (w.heap.size + 1) (.bool false) (.slice none 0 0) (.bool false) (.slice none 0 0) := Box4.new _ _ _ _ _ _ (by simp)
  generalize (w.alloc (.cells #[.bool n1, .slice a1 k1 c1, .bool n2, .slice a2 k2 c2] 43)).alloc (.cells #[.bool false, .slice none 0 0, .bool false, .slice none 0 0] 43) = W0 at *
  refine (fold_one _ g n1 n2 n3 n4 a1 a2 a3 a4 k1 c1 k2 c2 k3 c3 k4 c4 n m x y x' y' (H1.out.below hW0) (H2.out.below hW0) (H3.out.below hW0) (H4.out.below hW0) (by omega) (by omega) (HO.out.keep hW0)).mono ?_
  rintro e w1 ⟨ns, az, ks, cs, nt, at', kt, ct, rfl, A1, A2, hb1⟩
  have hW1 := below_call hW0 hb1 hW0.size
  replace bR := (bR.keep hb1).alloc (.cells #[.bool ns, .slice az ks cs, .bool nt, .slice at' kt ct] 43)
  have hst : Below w1.heap.size w1 (w1.alloc (.cells #[.bool ns, .slice az ks cs, .bool nt, .slice at' kt ct] 43)) := (Below.refl _ _).alloc (Nat.le_refl _) _
  have hWa := below_call hW1 hst hW1.size
  have J1 := hid (A1.below hst)
  have J2 := hid (A2.below hst)
  clear A1 A2 hb1 hst hW1
  go_wp2_with fail
  generalize w1.alloc (.cells #[.bool ns, .slice az ks cs, .bool nt, .slice at' kt ct] 43) = W1 at *
  refine (least_say _ _ _ _ _ _ _ J1.out J2.out H0.out (by omega) (by omega)).mono ?_
  rintro e w2 ⟨nu, au, ku, cu, nv, av, kv, cv, rfl, hI, hb2⟩
  have hW2 := below_call hWa hb2 hWa.size
  replace bR := bR.keep hb2
  have HI := hid (hI.off4 bR (grow4 w2 (w.heap.size + 1) (.bool nu) (.slice au ku cu) (.bool nv) (.slice av kv cv)))
  have HW := hid (below_fill4 hW2 (show w.heap.size ≤ w.heap.size + 1 by omega) (.bool nu) (.slice au ku cu) (.bool nv) (.slice av kv cv))
  obtain ⟨r0, r1, r2, r3⟩ := bR.c
  have rf := bR.f
  have rL := bR.lt
  clear hb2 hI bR
  go_wp2
  refine bodyPost_ret (v := .agg #[.bool nu, .slice au ku cu, .bool nv, .slice av kv cv]) ?_ rfl ⟨nu, au, ku, cu, nv, av, kv, cv, rfl, HI.out.mono (Nat.zero_le _) (by omega), HW.out⟩
  simp [results, Try.results92, go_sem, r0, r1, r2, r3]

end Go.Proofs.Ytiicjfacekldnaa
