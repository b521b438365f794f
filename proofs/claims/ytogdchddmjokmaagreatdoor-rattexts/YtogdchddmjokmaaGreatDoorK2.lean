/-
  Walks: one piece read; the number with a piece behind its digits.
-/
import Derived.Test.YtogdchddmjokmaaGreatDoorDA
import Derived.Test.YtogdchddmjokmaaGreatDoorK1
import Derived.Lib.SmallJoins
namespace Go.Proofs.YtogdchddmjokmaaGreatDoor
open Go.RowKit Lm
set_option linter.unusedSimpArgs false
set_option linter.unusedVariables false
set_option maxRecDepth 100000

/-- The package's error of a text that is no number lies where it was laid. -/
def ES (w : World) : Prop := ∃ tp p, w.var? Tryz.prog "strconv.ErrSyntax" = some #[.iface tp p]
theorem es_named : (Tryz.prog.globalNamed "strconv.ErrSyntax").isSome = true := by kernel_rfl
theorem ES.below {w w' : World} (h : ES w) (hb : Below w.heap.size w w') : ES w' := by
  obtain ⟨tp, p, h⟩ := h
  obtain ⟨g, hg⟩ := Option.isSome_iff_exists.1 es_named
  exact ⟨tp, p, Joins.var_stays hg h hb (Nat.le_refl _)⟩
theorem parse_any (w : World) (s : ByteArray) (hs : s.size ≤ 18) (hE : ES w) :
    Calls Tryz.prog 58 #[.string s, .int .i64 10, .int .i64 64] w fun e w' => ∃ q, e = .returned (.tuple #[.int .i64 (pieceV s), q]) ∧ Below w.heap.size w w' := by
  rcases piece_ok s hs with h | ⟨v, h, -, -⟩
  · obtain ⟨tp, p, hE⟩ := hE
    refine (Tryz.strconv_ParseInt_10_at64_syntax_var s (by omega) h tp p w hE).mono ?_
    have hp : pieceV s = 0 := by unfold pieceV; rw [h]
    rw [hp]
    rintro e w' ⟨N, he, -, -, hb⟩
    exact ⟨_, he, hb⟩
  · refine (Tryz.strconv_ParseInt_10_at64_ok s (by omega) v h w).mono ?_
    rintro e w' ⟨rfl, hw⟩
    refine ⟨.nilIface, ?_, ?_⟩
    · unfold pieceV; rw [h]
    · rcases hw with rfl | ⟨t, rfl⟩
      · exact Below.refl _ _
      · exact Lib.bytesWorld_below _ _ _
theorem pieceV_lo (s : ByteArray) (hs : s.size ≤ 18) : -1000000000000000000 ≤ pieceV s := by
  unfold pieceV; rcases piece_ok s hs with h | ⟨v, h, h1, h2⟩ <;> rw [h] <;> simp <;> omega
theorem pieceV_hi (s : ByteArray) (hs : s.size ≤ 18) : pieceV s ≤ 1000000000000000000 := by
  unfold pieceV; rcases piece_ok s hs with h | ⟨v, h, h1, h2⟩ <;> rw [h] <;> simp <;> omega
theorem keepB {W W' : World} {b : Nat} {x y : Value} (h : Box W b x y) (hb : Below W.heap.size W W') : W'.cell? ⟨b, 0, none⟩ = some x ∧ W'.cell? ⟨b, 1, none⟩ = some y := ⟨(h.keep hb).c0, (h.keep hb).c1⟩

/-- A number has been told. -/
def TellA (n : Nat) (x : Int) (w : World) (e : Ending) (w' : World) : Prop :=
  ∃ neg ao k cap, e = .returned (.agg #[.bool neg, .slice ao k cap]) ∧ Arg w' (.agg #[.bool neg, .slice ao k cap]) n x ∧ Below w.heap.size w w'

set_option maxHeartbeats 1600000 in
theorem withPiece_any (w : World) (u : Value) (n : Nat) (x : Int) (hu : Arg w u n x) (hn : n ≤ 400000) (s : ByteArray) (hs : s.size ≤ 18) (hE : ES w) :
    Calls Tryz.prog 35 #[u, .string s] w (TellA (n + 5) (x * 1000000000000000000 + pieceV s) w) := by
  have HX := hid hu
  have HE := hid hE
  have HL := hid (pieceV_lo s hs)
  have HH := hid (pieceV_hi s hs)
  obtain ⟨n1, a1, k1, c1, rfl⟩ : ∃ n1 a1 k1 c1, u = .agg #[.bool n1, .slice a1 k1 c1] := by
    obtain ⟨neg, sv, l, rfl, ⟨ao, cap, rfl, -⟩, -⟩ := hu
    exact ⟨_, _, _, _, rfl⟩
  clear hu hE
  go_enter Tryz.func35, Tryz.ntmps35
  go_wp2_with fail
  have hW0 : Below w.heap.size w ((w.alloc (.cells #[.bool n1, .slice a1 k1 c1] 24)).alloc (.cells #[.bool false, .slice none 0 0] 24)) := (by repeat (first | exact Below.refl _ _ | refine Below.alloc ?_ ?_ _ | refine Below.setCell ?_ ?_ _ | refine Below.drew ?_ | refine below_drewN ?_ _ | (· simp) | omega | (· simp; omega) | exact Below.size (by assumption) | assumption | refine below_call ?_ (by assumption) ?_))
  have bA : Box ((w.alloc (.cells #[.bool n1, .slice a1 k1 c1] 24)).alloc (.cells #[.bool false, .slice none 0 0] 24)) w.heap.size (.bool n1) (.slice a1 k1 c1) := (Box.new _ _ _ _ rfl).alloc _
  have bR : Box ((w.alloc (.cells #[.bool n1, .slice a1 k1 c1] 24)).alloc (.cells #[.bool false, .slice none 0 0] 24)) (w.heap.size + 1) (.bool false) (.slice none 0 0) := Box.new _ _ _ _ (by simp)
  have hE0 := HE.out.below hW0
  generalize ((w.alloc (.cells #[.bool n1, .slice a1 k1 c1] 24)).alloc (.cells #[.bool false, .slice none 0 0] 24)) = W0 at *
  refine (parse_any W0 s hs hE0).mono ?_
  rintro e w1 ⟨q, rfl, hb1⟩
  have bA1 := bA.keep hb1
  have bR1 := bR.keep hb1
  have hW1 : Below w.heap.size w w1 := below_call hW0 hb1 hW0.size
  have hR := bR.lt
  clear bA bR hb1 hE0
  obtain ⟨v, hv⟩ : ∃ v, v = pieceV s := ⟨_, rfl⟩
  rw [← hv] at HL HH
  rw [← hv]
  have HV := hid hv
  clear hv hs HE
  have E : RE w1 w1.drew [(.agg #[.bool n1, .slice a1 k1 c1], n, x)] [] [] [] := ((RE.none w1).know (HX.out.below hW1)).drew
  clear HX
  obtain ⟨z0, z1⟩ := keepB bR1 (Below.refl _ _)
  go_wp2_with fail
  go_region_held3 (fun W' => W'.cell? ⟨w.heap.size, 0, none⟩ = some (.bool n1) ∧ W'.cell? ⟨w.heap.size, 1, none⟩ = some (.slice a1 k1 c1)) (first | exact keepB bA1 E.bl | exact keepB ((bA1.keep E.bl).beside2 (by omega) _ _) (Below.refl _ _)) (first
    | (go_at_call_of 30 (Value.int .i64 1000000000000000000); go_must (refine (re_of E 1000000000000000000 (by omega) (by omega)).mono ?_); rintro e wn ⟨nc, ac, kc, cc, rfl, En⟩; clear E; have E := En; clear En; (try clear z0 z1 zf zl); obtain ⟨z0, z1⟩ := keepB bR1 E.bl; have zf := (bR1.keep E.bl).f; have zl := (bR1.keep E.bl).lt)
    | (go_at_call_of 30 (Value.int .i64 v); go_must (refine (re_of E v (by have := HL.out; omega) (by have := HH.out; omega)).mono ?_); rintro e wn ⟨nv, av, kv, cv, rfl, En⟩; clear E; have E := En; clear En; (try clear z0 z1 zf zl); obtain ⟨z0, z1⟩ := keepB bR1 E.bl; have zf := (bR1.keep E.bl).f; have zl := (bR1.keep E.bl).lt)
    | (go_at_call 60; go_must (refine (re_mul E (by repeat (first | exact List.Mem.head _ | refine List.Mem.tail _ ?_)) (by repeat (first | exact List.Mem.head _ | refine List.Mem.tail _ ?_)) (by omega) (by omega)).mono ?_); rintro e wn ⟨nn, an, kn, cn, rfl, En⟩; clear E; have E := En; clear En; (try clear z0 z1 zf zl); obtain ⟨z0, z1⟩ := keepB bR1 E.bl; have zf := (bR1.keep E.bl).f; have zl := (bR1.keep E.bl).lt)
    | (go_at_call 59; go_must (refine (re_add E (by repeat (first | exact List.Mem.head _ | refine List.Mem.tail _ ?_)) (by repeat (first | exact List.Mem.head _ | refine List.Mem.tail _ ?_)) (by omega) (by omega)).mono ?_); rintro e wn ⟨ns, az, ks, cs, rfl, En⟩; clear E; have E := En; clear En; (try clear z0 z1 zf zl); obtain ⟨z0, z1⟩ := keepB bR1 E.bl; have zf := (bR1.keep E.bl).f; have zl := (bR1.keep E.bl).lt))
  have E2 := E.refill2 (bR1.keep E.bl) (.bool ns) (.slice az ks cs)
  have EA := hid (E2.a _ (List.Mem.head _))
  have EB : Hid (Below w.heap.size w (fill2 wn (w.heap.size + 1) (.bool ns) (.slice az ks cs))) := hid (below_fill2 (below_call hW1 E.bl hW1.size) (by omega) _ _)
  clear E E2
  rw [HV.out] at EA
  go_wp2
  refine bodyPost_ret (v := .agg #[.bool ns, .slice az ks cs]) ?_ rfl ⟨ns, az, ks, cs, rfl, EA.out.mono (by omega), EB.out⟩
  simp [results, Tryz.results35, go_sem, z0, z1]

end Go.Proofs.YtogdchddmjokmaaGreatDoor
