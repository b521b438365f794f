/-
  Walks: Add.
-/
import Derived.Test.YtiicjfacekldnaaW35
import Derived.Test.YtiicjfacekldnaaW37
namespace Go.Proofs.Ytiicjfacekldnaa
open Go.RowKit Lm
set_option linter.unusedSimpArgs false
set_option linter.unusedVariables false
set_option maxRecDepth 100000

set_option maxHeartbeats 3200000 in
theorem ratAdd_any (w : World) (u v : Value) (n m : Nat) (r t : Rat) (hu : RArg w u n r) (hv : RArg w v m t) (hn : n ≤ 10000) (hm : m ≤ 10000) :
    Calls Try.prog 45 #[u, v] w (RSay 0 (4 * n + 4 * m + 18) (r + t) w) := by
  have HX := hid hu
  have HY := hid hv
  obtain ⟨n1, a1, k1, c1, n2, a2, k2, c2, rfl⟩ := hu.shape
  obtain ⟨n3, a3, k3, c3, n4, a4, k4, c4, rfl⟩ := hv.shape
  clear hu hv
  go_enter Try.func45, Try.ntmps45
  go_wp2
  have hW0 : Below w.heap.size w (((w.alloc (.cells #[.bool n1, .slice a1 k1 c1, .bool n2, .slice a2 k2 c2] 43)).alloc (.cells #[.bool n3, .slice a3 k3 c3, .bool n4, .slice a4 k4 c4] 43)).alloc (.cells #[.bool false, .slice none 0 0, .bool false, .slice none 0 0] 43)) := (by repeat (first | exact Below.refl _ _ | refine Below.alloc ?_ ?_ _ | refine Below.setCell ?_ ?_ _ | refine Below.drew ?_ | refine below_drewN ?_ _ | (· simp) | omega | (· simp; omega) | exact Below.size (by assumption) | assumption | refine below_call ?_ (by assumption) ?_))
  have bA : Box4 (((w.alloc (.cells #[.bool n1, .slice a1 k1 c1, .bool n2, .slice a2 k2 c2] 43)).alloc (.cells #[.bool n3, .slice a3 k3 c3, .bool n4, .slice a4 k4 c4] 43)).alloc (.cells #[.bool false, .slice none 0 0, .bool false, .slice none 0 0] 43)) w.heap.size (.bool n1) (.slice a1 k1 c1) (.bool n2) (.slice a2 k2 c2) := ((Box4.new _ _ _ _ _ _ rfl).alloc _).alloc _
  have bB : Box4 (((w.alloc (.cells #[.bool n1, .slice a1 k1 c1, .bool n2, .slice a2 k2 c2] 43)).alloc (.cells #[.bool n3, .slice a3 k3 c3, .bool n4, .slice a4 k4 c4] 43)).alloc (.cells #[.bool false, .slice none 0 0, .bool false, .slice none 0 0] 43)) (w.heap.size + 1) (.bool n3) (.slice a3 k3 c3) (.bool n4) (.slice a4 k4 c4) := (Box4.new _ _ _ _ _ _ (by simp)).alloc _
  have bR : Box4 (((w.alloc (.cells #[.bool n1, .slice a1 k1 c1, .bool n2, .slice a2 k2 c2] 43)).alloc (.cells #[.bool n3, .slice a3 k3 c3, .bool n4, .slice a4 k4 c4] 43)).alloc (.cells #[.bool false, .slice none 0 0, .bool false, .slice none 0 0] 43)) (w.heap.size + 1 + 1) (.bool false) (.slice none 0 0) (.bool false) (.slice none 0 0) := Box4.new _ _ _ _ _ _ (by simp)
  generalize ((w.alloc (.cells #[.bool n1, .slice a1 k1 c1, .bool n2, .slice a2 k2 c2] 43)).alloc (.cells #[.bool n3, .slice a3 k3 c3, .bool n4, .slice a4 k4 c4] 43)).alloc (.cells #[.bool false, .slice none 0 0, .bool false, .slice none 0 0] 43) = W0 at *
  have E : RE W0 W0.drew [] [] [(Value.agg #[Value.bool n1, Value.slice a1 k1 c1, Value.bool n2, Value.slice a2 k2 c2], n, r), (Value.agg #[Value.bool n3, Value.slice a3 k3 c3, Value.bool n4, Value.slice a4 k4 c4], m, t)] [] := (((RE.none W0).knowR (HY.out.below hW0)).knowR (HX.out.below hW0)).drew
  have HD := hid (den_mul_ne r t)
  clear HX HY
  go_region_held3 (fun W' => W'.cell? ⟨w.heap.size, 0, none⟩ = some (.bool n1) ∧ W'.cell? ⟨w.heap.size, 1, none⟩ = some (.slice a1 k1 c1) ∧ W'.cell? ⟨w.heap.size, 2, none⟩ = some (.bool n2) ∧ W'.cell? ⟨w.heap.size, 3, none⟩ = some (.slice a2 k2 c2) ∧ W'.cell? ⟨w.heap.size + 1, 0, none⟩ = some (.bool n3) ∧ W'.cell? ⟨w.heap.size + 1, 1, none⟩ = some (.slice a3 k3 c3) ∧ W'.cell? ⟨w.heap.size + 1, 2, none⟩ = some (.bool n4) ∧ W'.cell? ⟨w.heap.size + 1, 3, none⟩ = some (.slice a4 k4 c4)) (first | exact keep44 bA bB E.bl | exact keep44 bA bB (E.alloc _).bl | exact keep44 ((bA.keep E.bl).beside (by omega) _ _ _ _) ((bB.keep E.bl).beside (by omega) _ _ _ _) (Below.refl _ _)) (first
    | (go_at_call_of 89 (Value.agg #[Value.bool n1, Value.slice a1 k1 c1, Value.bool n2, Value.slice a2 k2 c2]); go_must (refine (re_counted E (by repeat (first | exact List.Mem.head _ | refine List.Mem.tail _ ?_)) (by omega)).mono ?_); rintro e w1 ⟨m1, p1, j1, d1, m2, p2, j2, d2, rfl, En⟩; clear E; have E := En; clear En)
    | (go_at_call_of 89 (Value.agg #[Value.bool n3, Value.slice a3 k3 c3, Value.bool n4, Value.slice a4 k4 c4]); go_must (refine (re_counted E (by repeat (first | exact List.Mem.head _ | refine List.Mem.tail _ ?_)) (by omega)).mono ?_); rintro e w2 ⟨m3, p3, j3, d3, m4, p4, j4, d4, rfl, En⟩; clear E; have E := En; clear En)
    | (go_at_call 92; go_must (refine (sum_one _ w2.heap.size m1 m2 m3 m4 p1 p2 p3 p4 j1 d1 j2 d2 j3 d3 j4 d4 (n + 2) (m + 2) r.num r.den t.num t.den ((E.alloc _).a _ (.tail _ (.tail _ (.head _)))) ((E.alloc _).a _ (.tail _ (.tail _ (.tail _ (.head _))))) ((E.alloc _).a _ (.head _)) ((E.alloc _).a _ (.tail _ (.head _))) (by omega) (by omega) (Box4.new _ _ _ _ _ _ rfl) HD.out).mono ?_); rintro e w3 ⟨nr, ar, kr, cr, nt, at', kt, ct, rfl, hI, hb⟩; have En := ((E.alloc _).step hb).knowS hI; clear E hI hb; have E := En; clear En; (try clear z0 z1 z2 z3 zf zl); obtain ⟨z0, z1, z2, z3⟩ := (bR.keep E.bl).c; have zf := (bR.keep E.bl).f; have zl := (bR.keep E.bl).lt))
  have E4 := E.refill (bR.keep E.bl) (.bool nr) (.slice ar kr cr) (.bool nt) (.slice at' kt ct)
  have HB : Hid (Below w.heap.size w (fill4 w3 (w.heap.size + 1 + 1) (.bool nr) (.slice ar kr cr) (.bool nt) (.slice at' kt ct))) := hid (below_fill4 (below_call hW0 E.bl hW0.size) (by omega) _ _ _ _)
  have HS := hid (E4.s _ (List.Mem.head _))
  clear E E4 bA bB bR
  rw [add_rat] at HS
  go_wp2
  refine bodyPost_ret (v := .agg #[.bool nr, .slice ar kr cr, .bool nt, .slice at' kt ct]) ?_ rfl ⟨nr, ar, kr, cr, nt, at', kt, ct, rfl, HS.out.mono (Nat.le_refl _) (by omega), HB.out⟩
  simp [results, Try.results45, go_sem, z0, z1, z2, z3]

end Go.Proofs.Ytiicjfacekldnaa
