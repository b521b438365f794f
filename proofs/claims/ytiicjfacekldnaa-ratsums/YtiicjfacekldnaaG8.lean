/-
  Walks: the law RatSums.
-/
import Derived.Test.YtiicjfacekldnaaE3
import Derived.Test.YtiicjfacekldnaaE4
import Derived.Test.YtiicjfacekldnaaE5
namespace Go.Proofs.Ytiicjfacekldnaa
open Go.RowKit Lm
set_option linter.unusedSimpArgs false
set_option linter.unusedVariables false
set_option maxRecDepth 100000

section
variable {U W W' : World} {KA KI : List (Value × Nat × Int)} {KR KS : List (Value × Nat × Rat)} {u v : Value} {n m : Nat} {x y : Int} {r t : Rat}
theorem re_subRat (E : RE U W KA KI KR KS) (hu : (u, n, r) ∈ KR) (hv : (v, m, t) ∈ KR) (hn : n ≤ 4000) (hm : m ≤ 4000) : Calls Try.prog 48 #[u, v] W (SaysQ U KA KI KR KS (3 * n + 3 * m + 19) (r - t)) :=
  (subRat_any W u v n m r t (E.r _ hu) (E.r _ hv) hn hm).mono fun _ _ h => saysQ_of E h
theorem re_mulRat (E : RE U W KA KI KR KS) (hu : (u, n, r) ∈ KR) (hv : (v, m, t) ∈ KR) (hn : n ≤ 5000) (hm : m ≤ 5000) : Calls Try.prog 50 #[u, v] W (SaysQ U KA KI KR KS (2 * n + 2 * m + 8) (r * t)) :=
  (mulRat_any W u v n m r t (E.r _ hu) (E.r _ hv) hn hm).mono fun _ _ h => saysQ_of E h
theorem re_divRat (E : RE U W KA KI KR KS) (hu : (u, n, r) ∈ KR) (hv : (v, m, t) ∈ KR) (ht : t ≠ 0) (hn : n ≤ 5000) (hm : m ≤ 5000) : Calls Try.prog 44 #[u, v] W (SaysE U KA KI KR KS (2 * n + 2 * m + 8) (r / t)) := by
  refine (divRat_any W u v n m r t (E.r _ hu) (E.r _ hv) ht hn hm).mono ?_
  rintro e w' ⟨n1, a1, k1, c1, n2, a2, k2, c2, rfl, hI, hb⟩
  exact ⟨n1, a1, k1, c1, n2, a2, k2, c2, rfl, (E.step hb).knowS hI⟩
theorem re_divRatz (E : RE U W KA KI KR KS) (hu : (u, n, r) ∈ KR) (hv : (v, m, t) ∈ KR) (ht : t = 0) (hn : n ≤ 5000) (hm : m ≤ 5000) : Calls Try.prog 44 #[u, v] W fun e w' => e = .returned (.tuple #[.agg #[.bool false, .slice none 0 0, .bool false, .slice none 0 0], .int .i64 11]) ∧ RE U w' KA KI KR KS := by
  refine (divRat_zero W u v n m r t (E.r _ hu) (E.r _ hv) ht hn hm).mono ?_
  rintro e w' ⟨rfl, hb⟩
  exact ⟨rfl, E.step hb⟩
theorem re_cmpRat (E : RE U W KA KI KR KS) (hu : (u, n, r) ∈ KR) (hv : (v, m, t) ∈ KR) (hn : n ≤ 5000) (hm : m ≤ 5000) : Calls Try.prog 52 #[u, v] W fun e w' => e = .returned (.int .i64 (cmpR r t)) ∧ RE U w' KA KI KR KS := by
  refine (cmpRat_any W u v n m r t (E.r _ hu) (E.r _ hv) hn hm).mono ?_
  rintro e w' ⟨rfl, hb⟩
  exact ⟨rfl, E.step hb⟩
theorem re_rfloor (E : RE U W KA KI KR KS) (hu : (u, n, r) ∈ KR) (hn : n ≤ 40000) : Calls Try.prog 54 #[u] W (SaysN U KA KI KR KS (n + 5) r.floor) :=
  (rfloor_any W u n r (E.r _ hu) hn).mono fun _ _ h => saysN_of E h
theorem re_sameE (E : RE U W KA KI KR KS) (hu : (u, n, x) ∈ KI) (hv : (v, m, y) ∈ KI) (h : x = y) : Calls Try.prog 22 #[u, v] W fun e w' => e = .returned (.bool true) ∧ RE U w' KA KI KR KS := by
  have h2 := re_same E hu hv
  rw [decide_eq_true h] at h2
  exact h2
theorem keep4444 {a b c d : Nat} {p q o s p' q' o' s' p2 q2 o2 s2 p3 q3 o3 s3 : Value} (h1 : Box4 U a p q o s) (h2 : Box4 U b p' q' o' s') (h3 : Box4 U c p2 q2 o2 s2) (h4 : Box4 U d p3 q3 o3 s3) (hb : Below U.heap.size U W) :
    W.cell? ⟨a, 0, none⟩ = some p ∧ W.cell? ⟨a, 1, none⟩ = some q ∧ W.cell? ⟨a, 2, none⟩ = some o ∧ W.cell? ⟨a, 3, none⟩ = some s ∧ W.cell? ⟨b, 0, none⟩ = some p' ∧ W.cell? ⟨b, 1, none⟩ = some q' ∧ W.cell? ⟨b, 2, none⟩ = some o' ∧ W.cell? ⟨b, 3, none⟩ = some s' ∧ W.cell? ⟨c, 0, none⟩ = some p2 ∧ W.cell? ⟨c, 1, none⟩ = some q2 ∧ W.cell? ⟨c, 2, none⟩ = some o2 ∧ W.cell? ⟨c, 3, none⟩ = some s2 ∧ W.cell? ⟨d, 0, none⟩ = some p3 ∧ W.cell? ⟨d, 1, none⟩ = some q3 ∧ W.cell? ⟨d, 2, none⟩ = some o3 ∧ W.cell? ⟨d, 3, none⟩ = some s3 := by
  obtain ⟨x0, x1, x2, x3, y0, y1, y2, y3⟩ := keep44 h1 h2 hb
  obtain ⟨z0, z1, z2, z3, u0, u1, u2, u3⟩ := keep44 h3 h4 hb
  exact ⟨x0, x1, x2, x3, y0, y1, y2, y3, z0, z1, z2, z3, u0, u1, u2, u3⟩
end

set_option maxHeartbeats 6400000 in
theorem ratSums_any (w : World) (n1 : Bool) (a1 : Option Addr) (c1 : Nat) (l1 : List Nat) (n2 : Bool) (a2 : Option Addr) (c2 : Nat) (l2 : List Nat) (n3 : Bool) (a3 : Option Addr) (c3 : Nat) (l3 : List Nat) (n4 : Bool) (a4 : Option Addr) (c4 : Nat) (l4 : List Nat) (h1 : SlAt w a1 c1 l1) (h2 : SlAt w a2 c2 l2) (h3 : SlAt w a3 c3 l3) (h4 : SlAt w a4 c4 l4) :
    Calls Try.prog 7 #[.agg #[.bool n1, .slice a1 l1.length c1, .bool n2, .slice a2 l2.length c2], .agg #[.bool n3, .slice a3 l3.length c3, .bool n4, .slice a4 l4.length c4]] w fun e w' => e = .returned (.bool true) ∧ Below w.heap.size w w' := by
  have hk1 := slat_len h1
  have hk2 := slat_len h2
  have hk3 := slat_len h3
  have hk4 := slat_len h4
  have HX := hid (rarg_mk (n1 := n1) (n2 := n2) h1 h2)
  have HY := hid (rarg_mk (n1 := n3) (n2 := n4) h3 h4)
  clear h1 h2 h3 h4
  generalize ratMean n1 l1 n2 l2 = r at *
  generalize ratMean n3 l3 n4 l4 = t at *
  generalize l1.length = L1 at *
  generalize l2.length = L2 at *
  generalize l3.length = L3 at *
  generalize l4.length = L4 at *
  go_enter Try.func7, Try.ntmps7
  go_wp2_with fail
  refine (great_r2 _ _ n1 n2 n3 n4 a1 a2 a3 a4 L1 c1 L2 c2 L3 c3 L4 c4 (by simp) hk1 hk2 hk3 hk4).mono ?_
  rintro e w0 ⟨rfl, rfl⟩
  have hW0 : Below w.heap.size w (((w.alloc (.cells #[.bool n1, .slice a1 L1 c1, .bool n2, .slice a2 L2 c2] 43)).alloc (.cells #[.bool n3, .slice a3 L3 c3, .bool n4, .slice a4 L4 c4] 43)).alloc (.cells #[.bool n1, .slice a1 L1 c1, .bool n2, .slice a2 L2 c2, .bool n3, .slice a3 L3 c3, .bool n4, .slice a4 L4 c4] 43)) := (by repeat (first | exact Below.refl _ _ | refine Below.alloc ?_ ?_ _ | refine Below.setCell ?_ ?_ _ | refine Below.drew ?_ | refine below_drewN ?_ _ | (· simp) | omega | (· simp; omega) | exact Below.size (by assumption) | assumption | refine below_call ?_ (by assumption) ?_))
  have bA : Box4 (((w.alloc (.cells #[.bool n1, .slice a1 L1 c1, .bool n2, .slice a2 L2 c2] 43)).alloc (.cells #[.bool n3, .slice a3 L3 c3, .bool n4, .slice a4 L4 c4] 43)).alloc (.cells #[.bool n1, .slice a1 L1 c1, .bool n2, .slice a2 L2 c2, .bool n3, .slice a3 L3 c3, .bool n4, .slice a4 L4 c4] 43)) w.heap.size (.bool n1) (.slice a1 L1 c1) (.bool n2) (.slice a2 L2 c2) := ((Box4.new _ _ _ _ _ _ rfl).alloc _).alloc _
  have bB : Box4 (((w.alloc (.cells #[.bool n1, .slice a1 L1 c1, .bool n2, .slice a2 L2 c2] 43)).alloc (.cells #[.bool n3, .slice a3 L3 c3, .bool n4, .slice a4 L4 c4] 43)).alloc (.cells #[.bool n1, .slice a1 L1 c1, .bool n2, .slice a2 L2 c2, .bool n3, .slice a3 L3 c3, .bool n4, .slice a4 L4 c4] 43)) (w.heap.size + 1) (.bool n3) (.slice a3 L3 c3) (.bool n4) (.slice a4 L4 c4) := (Box4.new _ _ _ _ _ _ (by simp)).alloc _
  generalize ((w.alloc (.cells #[.bool n1, .slice a1 L1 c1, .bool n2, .slice a2 L2 c2] 43)).alloc (.cells #[.bool n3, .slice a3 L3 c3, .bool n4, .slice a4 L4 c4] 43)).alloc (.cells #[.bool n1, .slice a1 L1 c1, .bool n2, .slice a2 L2 c2, .bool n3, .slice a3 L3 c3, .bool n4, .slice a4 L4 c4] 43) = W0 at *
  cases hG : greatR [(L1, L2), (L3, L4)]
  · obtain ⟨q1, q2⟩ := great_small hG (L1, L2) (List.Mem.head _)
    obtain ⟨q3, q4⟩ := great_small hG (L3, L4) (List.Mem.tail _ (List.Mem.head _))
    have E : RE W0 W0 [] [] [(Value.agg #[Value.bool n3, Value.slice a3 L3 c3, Value.bool n4, Value.slice a4 L4 c4], 6, t), (Value.agg #[Value.bool n1, Value.slice a1 L1 c1, Value.bool n2, Value.slice a2 L2 c2], 6, r)] [] := ((RE.none W0).knowR ((HX.out 6 q1 q2).below hW0)).knowR ((HY.out 6 q3 q4).below hW0)
    clear HX HY hG hk1 hk2 hk3 hk4 q1 q2 q3 q4
    obtain ⟨x0, x1, x2, x3, y0, y1, y2, y3⟩ := keep44 bA bB (Below.refl _ _)
    have lA := bA.lt
    have lB := bB.lt
    by_cases ht : t = 0
    · have HT := hid ht
      clear ht
      go_wp2_with fail
      clear x0 x1 x2 x3 y0 y1 y2 y3 lA lB
      refine (re_rDivz E (u := Value.agg #[Value.bool n1, Value.slice a1 L1 c1, Value.bool n2, Value.slice a2 L2 c2]) (v := Value.agg #[Value.bool n3, Value.slice a3 L3 c3, Value.bool n4, Value.slice a4 L4 c4]) (r := r) (t := t) (by repeat (first | exact List.Mem.head _ | refine List.Mem.tail _ ?_)) (by repeat (first | exact List.Mem.head _ | refine List.Mem.tail _ ?_)) HT.out (by omega) (by omega)).mono ?_
      rintro e u1 ⟨rfl, E1⟩
      clear E
      have E2 := E1.alloc (.cells #[.bool false, .slice none 0 0, .bool false, .slice none 0 0] 43)
      have bX : Box4 (u1.alloc (.cells #[.bool false, .slice none 0 0, .bool false, .slice none 0 0] 43)) u1.heap.size (.bool false) (.slice none 0 0) (.bool false) (.slice none 0 0) := Box4.new _ _ _ _ _ _ rfl
      have bA2 := bA.keep E2.bl
      have bB2 := bB.keep E2.bl
      have hW2 := below_call hW0 E2.bl hW0.size
      obtain ⟨x0, x1, x2, x3, y0, y1, y2, y3⟩ := keep44 bA bB E1.bl
      have lA := (bA.keep E1.bl).lt
      have lB := (bB.keep E1.bl).lt
      replace E2 := E2.rebase
      clear E1 bA bB hW0
      go_wp2_with fail
      clear x0 x1 x2 x3 y0 y1 y2 y3 lA lB
      generalize u1.alloc (.cells #[.bool false, .slice none 0 0, .bool false, .slice none 0 0] 43) = U2 at *
      generalize u1.heap.size = gX at *
      refine (re_divRatz E2 (u := Value.agg #[Value.bool n1, Value.slice a1 L1 c1, Value.bool n2, Value.slice a2 L2 c2]) (v := Value.agg #[Value.bool n3, Value.slice a3 L3 c3, Value.bool n4, Value.slice a4 L4 c4]) (r := r) (t := t) (by repeat (first | exact List.Mem.head _ | refine List.Mem.tail _ ?_)) (by repeat (first | exact List.Mem.head _ | refine List.Mem.tail _ ?_)) HT.out (by omega) (by omega)).mono ?_
      rintro e u3 ⟨rfl, E3⟩
      clear E2
      have E4 := E3.alloc (.cells #[.bool false, .slice none 0 0, .bool false, .slice none 0 0] 43)
      have bY : Box4 (u3.alloc (.cells #[.bool false, .slice none 0 0, .bool false, .slice none 0 0] 43)) u3.heap.size (.bool false) (.slice none 0 0) (.bool false) (.slice none 0 0) := Box4.new _ _ _ _ _ _ rfl
      have bA4 := bA2.keep E4.bl
      have bB4 := bB2.keep E4.bl
      have bX4 := bX.keep E4.bl
      have hW4 := below_call hW2 E4.bl hW2.size
      obtain ⟨x0, x1, x2, x3, y0, y1, y2, y3⟩ := keep44 (bA2.keep E3.bl) (bB2.keep E3.bl) (Below.refl _ _)
      have lA := (bA2.keep E3.bl).lt
      have lB := (bB2.keep E3.bl).lt
      have lX := (bX.keep E3.bl).lt
      replace E4 := E4.rebase
      clear E3 bA2 bB2 bX hW2
      go_wp2_with fail
      clear x0 x1 x2 x3 y0 y1 y2 y3 lA lB lX
      generalize u3.alloc (.cells #[.bool false, .slice none 0 0, .bool false, .slice none 0 0] 43) = U4 at *
      generalize u3.heap.size = gY at *
      have E := E4.drew
      clear E4
      go_region_held3 (fun W' => W'.cell? ⟨w.heap.size, 0, none⟩ = some (.bool n1) ∧ W'.cell? ⟨w.heap.size, 1, none⟩ = some (.slice a1 L1 c1) ∧ W'.cell? ⟨w.heap.size, 2, none⟩ = some (.bool n2) ∧ W'.cell? ⟨w.heap.size, 3, none⟩ = some (.slice a2 L2 c2) ∧ W'.cell? ⟨w.heap.size + 1, 0, none⟩ = some (.bool n3) ∧ W'.cell? ⟨w.heap.size + 1, 1, none⟩ = some (.slice a3 L3 c3) ∧ W'.cell? ⟨w.heap.size + 1, 2, none⟩ = some (.bool n4) ∧ W'.cell? ⟨w.heap.size + 1, 3, none⟩ = some (.slice a4 L4 c4) ∧ W'.cell? ⟨gX, 0, none⟩ = some (.bool false) ∧ W'.cell? ⟨gX, 1, none⟩ = some (.slice none 0 0) ∧ W'.cell? ⟨gX, 2, none⟩ = some (.bool false) ∧ W'.cell? ⟨gX, 3, none⟩ = some (.slice none 0 0) ∧ W'.cell? ⟨gY, 0, none⟩ = some (.bool false) ∧ W'.cell? ⟨gY, 1, none⟩ = some (.slice none 0 0) ∧ W'.cell? ⟨gY, 2, none⟩ = some (.bool false) ∧ W'.cell? ⟨gY, 3, none⟩ = some (.slice none 0 0)) (exact keep4444 bA4 bB4 bX4 bY E.bl) (first
        | (go_at_call_of 40 (Value.agg #[Value.bool false, Value.slice none 0 0, Value.bool false, Value.slice none 0 0]); go_must (refine (sameZero_any _).mono ?_); rintro e wn ⟨rfl, hbn⟩; have En := E.step hbn; clear hbn; clear E; have E := En; clear En)
        | (go_at_call 45; go_must (refine (re_rAdd E (by repeat (first | exact List.Mem.head _ | refine List.Mem.tail _ ?_)) (by repeat (first | exact List.Mem.head _ | refine List.Mem.tail _ ?_)) (by omega) (by omega)).mono ?_); rintro e wn ⟨nn, an, kn, cn, no, ao, ko, co, rfl, En⟩; clear E; have E := En; clear En) | (go_at_call 46; go_must (refine (re_addRat E (by repeat (first | exact List.Mem.head _ | refine List.Mem.tail _ ?_)) (by repeat (first | exact List.Mem.head _ | refine List.Mem.tail _ ?_)) (by omega) (by omega)).mono ?_); rintro e wn ⟨nn, an, kn, cn, no, ao, ko, co, rfl, En⟩; clear E; have E := En; clear En) | (go_at_call 47; go_must (refine (re_rSub E (by repeat (first | exact List.Mem.head _ | refine List.Mem.tail _ ?_)) (by repeat (first | exact List.Mem.head _ | refine List.Mem.tail _ ?_)) (by omega) (by omega)).mono ?_); rintro e wn ⟨nn, an, kn, cn, no, ao, ko, co, rfl, En⟩; clear E; have E := En; clear En) | (go_at_call 48; go_must (refine (re_subRat E (by repeat (first | exact List.Mem.head _ | refine List.Mem.tail _ ?_)) (by repeat (first | exact List.Mem.head _ | refine List.Mem.tail _ ?_)) (by omega) (by omega)).mono ?_); rintro e wn ⟨nn, an, kn, cn, no, ao, ko, co, rfl, En⟩; clear E; have E := En; clear En) | (go_at_call 49; go_must (refine (re_rMul E (by repeat (first | exact List.Mem.head _ | refine List.Mem.tail _ ?_)) (by repeat (first | exact List.Mem.head _ | refine List.Mem.tail _ ?_)) (by omega) (by omega)).mono ?_); rintro e wn ⟨nn, an, kn, cn, no, ao, ko, co, rfl, En⟩; clear E; have E := En; clear En) | (go_at_call 50; go_must (refine (re_mulRat E (by repeat (first | exact List.Mem.head _ | refine List.Mem.tail _ ?_)) (by repeat (first | exact List.Mem.head _ | refine List.Mem.tail _ ?_)) (by omega) (by omega)).mono ?_); rintro e wn ⟨nn, an, kn, cn, no, ao, ko, co, rfl, En⟩; clear E; have E := En; clear En) | (go_at_call 40; go_must (refine (re_sameRatE E (by repeat (first | exact List.Mem.head _ | refine List.Mem.tail _ ?_)) (by repeat (first | exact List.Mem.head _ | refine List.Mem.tail _ ?_)) (by rfl)).mono ?_); rintro e wn ⟨rfl, En⟩; clear E; have E := En; clear En) | (go_at_call 23; go_must (refine (re_num E _).mono ?_); rintro e wn ⟨rfl, En⟩; clear E; have E := En; clear En) | (go_at_call 51; go_must (refine (re_rCmp E (by repeat (first | exact List.Mem.head _ | refine List.Mem.tail _ ?_)) (by repeat (first | exact List.Mem.head _ | refine List.Mem.tail _ ?_)) (by omega) (by omega)).mono ?_); rintro e wn ⟨rfl, En⟩; clear E; have E := En; clear En) | (go_at_call 52; go_must (refine (re_cmpRat E (by repeat (first | exact List.Mem.head _ | refine List.Mem.tail _ ?_)) (by repeat (first | exact List.Mem.head _ | refine List.Mem.tail _ ?_)) (by omega) (by omega)).mono ?_); rintro e wn ⟨rfl, En⟩; clear E; have E := En; clear En) | (go_at_call 53; go_must (refine (re_floor E (by repeat (first | exact List.Mem.head _ | refine List.Mem.tail _ ?_)) (by omega)).mono ?_); rintro e wn ⟨nn, an, kn, cn, rfl, En⟩; clear E; have E := En; clear En) | (go_at_call 54; go_must (refine (re_rfloor E (by repeat (first | exact List.Mem.head _ | refine List.Mem.tail _ ?_)) (by omega)).mono ?_); rintro e wn ⟨nn, an, kn, cn, rfl, En⟩; clear E; have E := En; clear En) | (go_at_call 22; go_must (refine (re_sameE E (by repeat (first | exact List.Mem.head _ | refine List.Mem.tail _ ?_)) (by repeat (first | exact List.Mem.head _ | refine List.Mem.tail _ ?_)) (by rfl)).mono ?_); rintro e wn ⟨rfl, En⟩; clear E; have E := En; clear En) | (go_at_call 35; go_must (refine (re_awake2 E).mono ?_); rintro e wn ⟨rfl, En⟩; clear E; have E := En; clear En))
      have HB := hid (below_call hW4 E.bl hW4.size)
      clear E bA4 bB4 bX4 bY
      go_wp2
      go_ret
      exact ⟨rfl, HB.out⟩
    · have HT := hid ht
      clear ht
      go_wp2_with fail
      clear x0 x1 x2 x3 y0 y1 y2 y3 lA lB
      refine (re_rDiv E (u := Value.agg #[Value.bool n1, Value.slice a1 L1 c1, Value.bool n2, Value.slice a2 L2 c2]) (v := Value.agg #[Value.bool n3, Value.slice a3 L3 c3, Value.bool n4, Value.slice a4 L4 c4]) (r := r) (t := t) (by repeat (first | exact List.Mem.head _ | refine List.Mem.tail _ ?_)) (by repeat (first | exact List.Mem.head _ | refine List.Mem.tail _ ?_)) HT.out (by omega) (by omega)).mono ?_
      rintro e u1 ⟨m1, p1, j1, d1, m2, p2, j2, d2, rfl, E1⟩
      clear E
      have E2 := E1.alloc (.cells #[.bool m1, .slice p1 j1 d1, .bool m2, .slice p2 j2 d2] 43)
      have bX : Box4 (u1.alloc (.cells #[.bool m1, .slice p1 j1 d1, .bool m2, .slice p2 j2 d2] 43)) u1.heap.size (.bool m1) (.slice p1 j1 d1) (.bool m2) (.slice p2 j2 d2) := Box4.new _ _ _ _ _ _ rfl
      have bA2 := bA.keep E2.bl
      have bB2 := bB.keep E2.bl
      have hW2 := below_call hW0 E2.bl hW0.size
      obtain ⟨x0, x1, x2, x3, y0, y1, y2, y3⟩ := keep44 bA bB E1.bl
      have lA := (bA.keep E1.bl).lt
      have lB := (bB.keep E1.bl).lt
      replace E2 := E2.rebase
      clear E1 bA bB hW0
      go_wp2_with fail
      clear x0 x1 x2 x3 y0 y1 y2 y3 lA lB
      generalize u1.alloc (.cells #[.bool m1, .slice p1 j1 d1, .bool m2, .slice p2 j2 d2] 43) = U2 at *
      generalize u1.heap.size = gX at *
      refine (re_divRat E2 (u := Value.agg #[Value.bool n1, Value.slice a1 L1 c1, Value.bool n2, Value.slice a2 L2 c2]) (v := Value.agg #[Value.bool n3, Value.slice a3 L3 c3, Value.bool n4, Value.slice a4 L4 c4]) (r := r) (t := t) (by repeat (first | exact List.Mem.head _ | refine List.Mem.tail _ ?_)) (by repeat (first | exact List.Mem.head _ | refine List.Mem.tail _ ?_)) HT.out (by omega) (by omega)).mono ?_
      rintro e u3 ⟨m3, p3, j3, d3, m4, p4, j4, d4, rfl, E3⟩
      clear E2
      have E4 := E3.alloc (.cells #[.bool m3, .slice p3 j3 d3, .bool m4, .slice p4 j4 d4] 43)
      have bY : Box4 (u3.alloc (.cells #[.bool m3, .slice p3 j3 d3, .bool m4, .slice p4 j4 d4] 43)) u3.heap.size (.bool m3) (.slice p3 j3 d3) (.bool m4) (.slice p4 j4 d4) := Box4.new _ _ _ _ _ _ rfl
      have bA4 := bA2.keep E4.bl
      have bB4 := bB2.keep E4.bl
      have bX4 := bX.keep E4.bl
      have hW4 := below_call hW2 E4.bl hW2.size
      obtain ⟨x0, x1, x2, x3, y0, y1, y2, y3⟩ := keep44 (bA2.keep E3.bl) (bB2.keep E3.bl) (Below.refl _ _)
      have lA := (bA2.keep E3.bl).lt
      have lB := (bB2.keep E3.bl).lt
      have lX := (bX.keep E3.bl).lt
      replace E4 := E4.rebase
      clear E3 bA2 bB2 bX hW2
      go_wp2_with fail
      clear x0 x1 x2 x3 y0 y1 y2 y3 lA lB lX
      generalize u3.alloc (.cells #[.bool m3, .slice p3 j3 d3, .bool m4, .slice p4 j4 d4] 43) = U4 at *
      generalize u3.heap.size = gY at *
      have E := E4.drew
      clear E4
      go_region_held3 (fun W' => W'.cell? ⟨w.heap.size, 0, none⟩ = some (.bool n1) ∧ W'.cell? ⟨w.heap.size, 1, none⟩ = some (.slice a1 L1 c1) ∧ W'.cell? ⟨w.heap.size, 2, none⟩ = some (.bool n2) ∧ W'.cell? ⟨w.heap.size, 3, none⟩ = some (.slice a2 L2 c2) ∧ W'.cell? ⟨w.heap.size + 1, 0, none⟩ = some (.bool n3) ∧ W'.cell? ⟨w.heap.size + 1, 1, none⟩ = some (.slice a3 L3 c3) ∧ W'.cell? ⟨w.heap.size + 1, 2, none⟩ = some (.bool n4) ∧ W'.cell? ⟨w.heap.size + 1, 3, none⟩ = some (.slice a4 L4 c4) ∧ W'.cell? ⟨gX, 0, none⟩ = some (.bool m1) ∧ W'.cell? ⟨gX, 1, none⟩ = some (.slice p1 j1 d1) ∧ W'.cell? ⟨gX, 2, none⟩ = some (.bool m2) ∧ W'.cell? ⟨gX, 3, none⟩ = some (.slice p2 j2 d2) ∧ W'.cell? ⟨gY, 0, none⟩ = some (.bool m3) ∧ W'.cell? ⟨gY, 1, none⟩ = some (.slice p3 j3 d3) ∧ W'.cell? ⟨gY, 2, none⟩ = some (.bool m4) ∧ W'.cell? ⟨gY, 3, none⟩ = some (.slice p4 j4 d4)) (exact keep4444 bA4 bB4 bX4 bY E.bl) (first
        | (go_at_call 45; go_must (refine (re_rAdd E (by repeat (first | exact List.Mem.head _ | refine List.Mem.tail _ ?_)) (by repeat (first | exact List.Mem.head _ | refine List.Mem.tail _ ?_)) (by omega) (by omega)).mono ?_); rintro e wn ⟨nn, an, kn, cn, no, ao, ko, co, rfl, En⟩; clear E; have E := En; clear En) | (go_at_call 46; go_must (refine (re_addRat E (by repeat (first | exact List.Mem.head _ | refine List.Mem.tail _ ?_)) (by repeat (first | exact List.Mem.head _ | refine List.Mem.tail _ ?_)) (by omega) (by omega)).mono ?_); rintro e wn ⟨nn, an, kn, cn, no, ao, ko, co, rfl, En⟩; clear E; have E := En; clear En) | (go_at_call 47; go_must (refine (re_rSub E (by repeat (first | exact List.Mem.head _ | refine List.Mem.tail _ ?_)) (by repeat (first | exact List.Mem.head _ | refine List.Mem.tail _ ?_)) (by omega) (by omega)).mono ?_); rintro e wn ⟨nn, an, kn, cn, no, ao, ko, co, rfl, En⟩; clear E; have E := En; clear En) | (go_at_call 48; go_must (refine (re_subRat E (by repeat (first | exact List.Mem.head _ | refine List.Mem.tail _ ?_)) (by repeat (first | exact List.Mem.head _ | refine List.Mem.tail _ ?_)) (by omega) (by omega)).mono ?_); rintro e wn ⟨nn, an, kn, cn, no, ao, ko, co, rfl, En⟩; clear E; have E := En; clear En) | (go_at_call 49; go_must (refine (re_rMul E (by repeat (first | exact List.Mem.head _ | refine List.Mem.tail _ ?_)) (by repeat (first | exact List.Mem.head _ | refine List.Mem.tail _ ?_)) (by omega) (by omega)).mono ?_); rintro e wn ⟨nn, an, kn, cn, no, ao, ko, co, rfl, En⟩; clear E; have E := En; clear En) | (go_at_call 50; go_must (refine (re_mulRat E (by repeat (first | exact List.Mem.head _ | refine List.Mem.tail _ ?_)) (by repeat (first | exact List.Mem.head _ | refine List.Mem.tail _ ?_)) (by omega) (by omega)).mono ?_); rintro e wn ⟨nn, an, kn, cn, no, ao, ko, co, rfl, En⟩; clear E; have E := En; clear En) | (go_at_call 40; go_must (refine (re_sameRatE E (by repeat (first | exact List.Mem.head _ | refine List.Mem.tail _ ?_)) (by repeat (first | exact List.Mem.head _ | refine List.Mem.tail _ ?_)) (by rfl)).mono ?_); rintro e wn ⟨rfl, En⟩; clear E; have E := En; clear En) | (go_at_call 23; go_must (refine (re_num E _).mono ?_); rintro e wn ⟨rfl, En⟩; clear E; have E := En; clear En) | (go_at_call 51; go_must (refine (re_rCmp E (by repeat (first | exact List.Mem.head _ | refine List.Mem.tail _ ?_)) (by repeat (first | exact List.Mem.head _ | refine List.Mem.tail _ ?_)) (by omega) (by omega)).mono ?_); rintro e wn ⟨rfl, En⟩; clear E; have E := En; clear En) | (go_at_call 52; go_must (refine (re_cmpRat E (by repeat (first | exact List.Mem.head _ | refine List.Mem.tail _ ?_)) (by repeat (first | exact List.Mem.head _ | refine List.Mem.tail _ ?_)) (by omega) (by omega)).mono ?_); rintro e wn ⟨rfl, En⟩; clear E; have E := En; clear En) | (go_at_call 53; go_must (refine (re_floor E (by repeat (first | exact List.Mem.head _ | refine List.Mem.tail _ ?_)) (by omega)).mono ?_); rintro e wn ⟨nn, an, kn, cn, rfl, En⟩; clear E; have E := En; clear En) | (go_at_call 54; go_must (refine (re_rfloor E (by repeat (first | exact List.Mem.head _ | refine List.Mem.tail _ ?_)) (by omega)).mono ?_); rintro e wn ⟨nn, an, kn, cn, rfl, En⟩; clear E; have E := En; clear En) | (go_at_call 22; go_must (refine (re_sameE E (by repeat (first | exact List.Mem.head _ | refine List.Mem.tail _ ?_)) (by repeat (first | exact List.Mem.head _ | refine List.Mem.tail _ ?_)) (by rfl)).mono ?_); rintro e wn ⟨rfl, En⟩; clear E; have E := En; clear En) | (go_at_call 35; go_must (refine (re_awake2 E).mono ?_); rintro e wn ⟨rfl, En⟩; clear E; have E := En; clear En))
      have HB := hid (below_call hW4 E.bl hW4.size)
      clear E bA4 bB4 bX4 bY
      go_wp2
      go_ret
      exact ⟨rfl, HB.out⟩
  · clear hG
    go_wp2_with fail
    refine (awake2_any _).mono ?_
    rintro e w1 ⟨rfl, hb⟩
    have hW1 := below_call hW0 hb hW0.size
    go_wp2
    go_ret
    exact ⟨rfl, hW1⟩

end Go.Proofs.Ytiicjfacekldnaa
