/-
  Walks: the fold over the pieces.
-/
import Derived.Test.YtogdchddmjokmaaGreatDoorK3
namespace Go.Proofs.YtogdchddmjokmaaGreatDoor
open Go.RowKit Lm
set_option linter.unusedSimpArgs false
set_option linter.unusedVariables false
set_option maxRecDepth 100000

theorem arg_off2 {w : World} {v : Value} {n : Nat} {x : Int} {g k d : Nat} {a : Option Addr} {b : Bool} (h : Arg w v n x) (hg : Box w g (.bool b) (.slice a k d)) (p q : Value) : Arg (fill2 w g p q) v n x := by
  obtain ⟨neg, sv, l, e, ⟨ao, cap, e2, hs⟩, hr⟩ := h
  exact ⟨neg, sv, l, e, ⟨ao, cap, e2, hs.offN hg (grow2 w g p q)⟩, hr⟩
theorem foldV_take (x : Int) (L : List ByteArray) (i : Nat) (h : i < L.length) : foldV x (L.take (i + 1)) = foldV x (L.take i) * 1000000000000000000 + pieceV L[i] := by
  rw [List.take_succ_eq_append_getElem h, foldV_snoc]
theorem es_fill {w W : World} (h : ES w) {g : Nat} (hb : Below w.heap.size w W) : ES W := h.below hb

def FoRel (w : World) (L : List ByteArray) (n : Nat) (x : Int) (iv : Value) (wr : World) : Prop :=
  ∃ (i : Nat) (ns : Bool) (az : Option Addr) (ks cs : Nat), i ≤ L.length ∧ iv = .int .i64 (i : Int) ∧ Box wr (w.heap.size + 1 + 1) (.bool ns) (.slice az ks cs) ∧ Box wr (w.heap.size + 1) (.bool false) (.slice none 0 0) ∧
    Arg wr (.agg #[.bool ns, .slice az ks cs]) (n + 5 * i) (foldV x (L.take i)) ∧ Below w.heap.size w wr

set_option maxHeartbeats 1600000 in
theorem foldI_any (w : World) (g cap : Nat) (L : List ByteArray) (u : Value) (n : Nat) (x : Int) (hu : Arg w u n x) (hn : n ≤ 1000) (hg : g < w.heap.size) (hc : ∀ j (hj : j < L.length), w.cell? ⟨g, j, none⟩ = some (.string L[j])) (hs : ∀ t ∈ L, t.size ≤ 18) (K : Nat) (hK : K = L.length) (hL : K ≤ 2000) (hcap : K ≤ cap) (hcm : cap ≤ maxLen) (hE : ES w) :
    Calls Tryz.prog 33 #[.slice (some ⟨g, 0, none⟩) K cap, u, .func (.func 35) #[] #[]] w (TellA (n + 5 * K) (foldV x L) w) := by
  have HX := hid hu
  have HC := hid hc
  have HS := hid hs
  have HE := hid hE
  have HK := hid hK
  obtain ⟨n1, a1, k1, c1, rfl⟩ : ∃ n1 a1 k1 c1, u = .agg #[.bool n1, .slice a1 k1 c1] := by
    obtain ⟨neg, sv, l, rfl, ⟨ao, cap, rfl, -⟩, -⟩ := hu
    exact ⟨_, _, _, _, rfl⟩
  clear hu hc hs hE hK
  go_enter Tryz.func33, Tryz.ntmps33
  go_wp2_with fail
  have hW0 : Below w.heap.size w (((w.alloc (.cells #[.bool n1, .slice a1 k1 c1] 24)).alloc (.cells #[.bool false, .slice none 0 0] 24)).alloc (.cells #[.bool n1, .slice a1 k1 c1] 24)) := (by repeat (first | exact Below.refl _ _ | refine Below.alloc ?_ ?_ _ | refine Below.setCell ?_ ?_ _ | refine Below.drew ?_ | refine below_drewN ?_ _ | (· simp) | omega | (· simp; omega) | exact Below.size (by assumption) | assumption | refine below_call ?_ (by assumption) ?_))
  go_loopw [13] (fun iv wr => FoRel w L n x iv wr) (fun iv wr => K - (intOf iv).toNat)
  case atStart => exact ⟨0, n1, a1, k1, c1, Nat.zero_le _, rfl, Box.new _ _ _ _ (by simp), (Box.new _ _ _ _ (by simp)).alloc _, by simpa [foldV] using HX.out.below hW0, hW0⟩
  case round =>
    clear hW0
    obtain ⟨i, ns, az, ks, cs, hi, rfl, bS, bR, A1, hWr⟩ := hrel
    have J1 := hid A1
    by_cases hlt : i < K
    · have hiL : i < L.length := by have := HK.out; omega
      have hii : (i : Int) < (K : Int) := by omega
      have hi0 : (0 : Int) ≤ (i : Int) := by omega
      have hce : wr.cell? ⟨g, i, none⟩ = some (.string L[i]) := (hWr.cell (p := ⟨g, i, none⟩) hg).trans (HC.out i hiL)
      have HSZ := hid (HS.out L[i] (List.getElem_mem hiL))
      have HFV := hid (foldV_take x L i hiL)
      have HEr := hid (HE.out.below hWr)
      generalize L[i] = t at *
      obtain ⟨s0, s1⟩ := keepB bS (Below.refl _ _)
      have sf := bS.f
      have sL := bS.lt
      have HB := hid bS
      have HR := hid bR
      clear A1
      go_wp2_with fail
      refine (withPiece_any wr _ (n + 5 * i) _ J1.out (by omega) t HSZ.out HEr.out).mono ?_
      rintro e w2 ⟨nu, au, ku, cu, rfl, K1, hb⟩
      have hW2 := below_call hWr hb hWr.size
      have bS2 := bS.keep hb
      have bR2 := bR.keep hb
      have HB2 := hid bS2
      have HR2 := hid bR2
      have L1 := hid K1
      clear s0 s1 sf sL hb K1 bS bR hce
      obtain ⟨s0, s1⟩ := keepB bS2 (Below.refl _ _)
      have sf := bS2.f
      have sL := bS2.lt
      clear bS2 bR2
      go_wp2
      go_roundw
      case rel =>
        refine ⟨i + 1, nu, au, ku, cu, hiL, by go_num, HB2.out.filled _ _, HR2.out.beside2 (by omega) _ _, ?_, below_fill2 hW2 (by omega) _ _⟩
        rw [HFV.out]
        exact (arg_off2 L1.out HB2.out _ _).mono (by omega)
      case measure => simp [intOf]; omega
    · have hie : i = K := by have := HK.out; omega
      subst hie
      have hend : L.take i = L := List.take_of_length_le (by have := HK.out; omega)
      rw [hend] at J1
      have J2 := hid (arg_off2 J1.out bR (.bool ns) (.slice az ks cs))
      obtain ⟨s0, s1⟩ := keepB bS (Below.refl _ _)
      obtain ⟨r0, r1⟩ := keepB bR (Below.refl _ _)
      have rf := bR.f
      have sL := bS.lt
      have rL := bR.lt
      have HW := hid (below_fill2 hWr (show w.heap.size ≤ w.heap.size + 1 by omega) (.bool ns) (.slice az ks cs))
      clear A1 bS bR
      go_wp2
      refine bodyPost_ret (v := .agg #[.bool ns, .slice az ks cs]) ?_ rfl ⟨ns, az, ks, cs, rfl, J2.out, HW.out⟩
      simp [results, Tryz.results33, go_sem, r0, r1]

end Go.Proofs.YtogdchddmjokmaaGreatDoor
