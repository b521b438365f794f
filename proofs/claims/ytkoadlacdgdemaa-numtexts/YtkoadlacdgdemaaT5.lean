/-
  The law NumTexts.
-/
import Derived.Test.YtkoadlacdgdemaaT4
namespace Go.Proofs.Ytkoadlacdgdemaa
open Go.RowKit Lm
set_option linter.unusedSimpArgs false
set_option linter.unusedVariables false
set_option maxRecDepth 100000

theorem read_pair (s : ByteArray) : ∃ c y, ∀ w e w', AnsOf w s e w' → AnsI w c y e w' := by
  by_cases h1 : 5000 < s.size
  · refine ⟨2, 0, fun w e w' h => ?_⟩
    rcases h with ⟨_, h⟩ | ⟨h, _⟩ | ⟨h, _⟩
    · exact h
    · omega
    · omega
  · by_cases h2 : mayRead (lst s)
    · refine ⟨0, readV (lst s), fun w e w' h => ?_⟩
      rcases h with ⟨h, _⟩ | ⟨_, h, _⟩ | ⟨_, _, h⟩
      · omega
      · exact absurd h2 h
      · exact h
    · refine ⟨4, 0, fun w e w' h => ?_⟩
      rcases h with ⟨h, _⟩ | ⟨_, _, h⟩ | ⟨_, h, _⟩
      · omega
      · exact h
      · exact absurd h h2
variable {W0 W W' : World} {B : List (Nat × Value × Value)} {KA KI : List (Value × Nat × Int)} {u v : Value} {n m : Nat} {x y : Int}
theorem env_rtext (E : Env W0 W B KA KI) (hu : (u, n, x) ∈ KA) (hn : n ≤ 1000000) : Calls Try.prog 14 #[u] W fun e w' => e = .returned (.string (str (textOf x))) ∧ Env W0 w' B KA KI := by
  refine (rtext_num W u n x (E.a _ hu) hn).mono ?_
  rintro e w' ⟨rfl, hb⟩
  exact ⟨rfl, E.step hb⟩
theorem cellsT {g1 g2 g3 : Nat} {p1 q1 p2 q2 p3 q3 : Value} (E : Env W0 W [(g3, p3, q3), (g2, p2, q2), (g1, p1, q1)] KA KI) : W.cell? ⟨g3, 0, none⟩ = some p3 ∧ W.cell? ⟨g3, 1, none⟩ = some q3 ∧ W.cell? ⟨g2, 0, none⟩ = some p2 ∧ W.cell? ⟨g2, 1, none⟩ = some q2 ∧ W.cell? ⟨g1, 0, none⟩ = some p1 ∧ W.cell? ⟨g1, 1, none⟩ = some q1 := by
  have b3 := E.bx _ (.head _)
  have b2 := E.bx _ (.tail _ (.head _))
  have b1 := E.bx _ (.tail _ (.tail _ (.head _)))
  exact ⟨b3.c0, b3.c1, b2.c0, b2.c1, b1.c0, b1.c1⟩

set_option maxHeartbeats 6400000 in
theorem numTexts_any (w : World) (neg : Bool) (ao : Option Addr) (cap : Nat) (l : List Nat) (s : ByteArray) (h : SlAt w ao cap l) (hs : s.size ≤ maxLen) :
    Calls Try.prog 3 #[.agg #[.bool neg, .slice ao l.length cap], .string s] w fun e w' => e = .returned (.bool true) ∧ Below w.heap.size w w' := by
  have m1 := h.2.2.1
  have q1 := h.2.1
  unfold maxLen at m1
  have hk : l.length ≤ 9223372036854775807 := by omega
  have X := arg_mk (neg := neg) h
  generalize mean neg l = x at *
  clear h m1 q1
  generalize l.length = L at *
  obtain ⟨c, y, hC⟩ := read_pair s
  have HC := hid hC
  clear hC
  go_enter Try.func3, Try.ntmps3
  go_wp2_with fail
  refine (great_one _ _ (by simp) neg ao L cap hk).mono ?_
  rintro e w0 ⟨rfl, rfl⟩
  have hW0 : Below w.heap.size w ((w.alloc (.cells #[.bool neg, .slice ao L cap] 24)).alloc (.cells #[.bool neg, .slice ao L cap] 24)) := (by repeat (first | exact Below.refl _ _ | refine Below.alloc ?_ ?_ _ | refine Below.setCell ?_ ?_ _ | refine Below.drew ?_ | refine below_drewN ?_ _ | (· simp) | omega | (· simp; omega) | exact Below.size (by assumption) | assumption | refine below_call ?_ (by assumption) ?_))
  have E : Env w ((w.alloc (.cells #[.bool neg, .slice ao L cap] 24)).alloc (.cells #[.bool neg, .slice ao L cap] 24)) [(w.heap.size, .bool neg, .slice ao L cap)] [(.agg #[.bool neg, .slice ao L cap], L, x)] [] := by
    refine Env.know ⟨?_, by simp, by simp, hW0⟩ (X.below hW0)
    intro p hp
    simp only [List.mem_cons, List.not_mem_nil, or_false] at hp
    subst hp
    exact (Box.new w _ _ _ rfl).alloc _
  clear hW0 X
  generalize (w.alloc (.cells #[.bool neg, .slice ao L cap] 24)).alloc (.cells #[.bool neg, .slice ao L cap] 24) = u0 at *
  obtain ⟨xa0, xa1⟩ := cells1 E
  cases hG : greatB [L]
  · have hl : L ≤ 40 := by simp [greatB] at hG; omega
    clear hG hk
    by_cases h1 : 200 < s.size
    · have h1i : (200 : Int) < (s.size : Int) := by omega
      by_cases h2 : s.size ≤ 5000
      · have h2i : (s.size : Int) ≤ 5000 := by omega
        go_wp2_with fail
        refine (env_awake E).mono ?_
        rintro e u1 ⟨rfl, E1⟩
        have HB := hid E1.bl
        clear E E1
        go_wp2
        go_ret
        exact ⟨rfl, HB.out⟩
      · have h2i : ¬ (s.size : Int) ≤ 5000 := by omega
        go_wp2_with fail
        refine ((read_num _ s (by unfold maxLen at hs; omega)).mono fun e w' h => HC.out _ _ _ (read_ans h)).mono ?_
        rintro e u1 ⟨n3, a3, k3, c3, rfl, hI3, hb3⟩
        have E2 := (E.next hb3 hI3).box (.bool n3) (.slice a3 k3 c3)
        clear E hb3 hI3 xa0 xa1
        go_wp2_with fail
        refine ((rReadS_any _ s (by unfold maxLen at hs; omega)).mono fun e w' h => HC.out _ _ _ h).mono ?_
        rintro e u2 ⟨n4, a4, k4, c4, rfl, hI4, hb4⟩
        have E3 := ((E2.next hb4 hI4).box (.bool n4) (.slice a4 k4 c4)).drew
        clear E2 hb4 hI4
        have hT : ((str (textOf x)).toList == (str (textOf x)).toList) = true := by simp
        have hcc : (c == c) = true := by simp
        obtain ⟨xc0, xc1, xb0, xb1, xa0, xa1⟩ := cells3 E3
        go_wp2_with fail
        clear xc0 xc1 xb0 xb1 xa0 xa1
        have E := E3
        clear E3
        go_region_held3 (fun W' => W'.cell? ⟨u2.heap.size, 0, none⟩ = some (.bool n4) ∧ W'.cell? ⟨u2.heap.size, 1, none⟩ = some (.slice a4 k4 c4) ∧ W'.cell? ⟨u1.heap.size, 0, none⟩ = some (.bool n3) ∧ W'.cell? ⟨u1.heap.size, 1, none⟩ = some (.slice a3 k3 c3) ∧ W'.cell? ⟨w.heap.size, 0, none⟩ = some (.bool neg) ∧ W'.cell? ⟨w.heap.size, 1, none⟩ = some (.slice ao L cap)) (exact cells3 E) (first
          | (go_at_call 13; go_must (refine (env_text E (by repeat (first | exact List.Mem.head _ | refine List.Mem.tail _ ?_)) (by omega)).mono ?_); rintro e wn ⟨rfl, En⟩; clear E; have E := En; clear En)
          | (go_at_call 14; go_must (refine (env_rtext E (by repeat (first | exact List.Mem.head _ | refine List.Mem.tail _ ?_)) (by omega)).mono ?_); rintro e wn ⟨rfl, En⟩; clear E; have E := En; clear En)
          | (go_at_call 15; go_must (refine (env_same E (by repeat (first | exact List.Mem.head _ | refine List.Mem.tail _ ?_)) (by repeat (first | exact List.Mem.head _ | refine List.Mem.tail _ ?_)) (by rfl)).mono ?_); rintro e wn ⟨rfl, En⟩; clear E; have E := En; clear En)
          | (go_at_call 16; go_must (refine (env_num E _).mono ?_); rintro e wn ⟨rfl, En⟩; clear E; have E := En; clear En)
          | (go_at_call 10; go_must (refine (env_awake E).mono ?_); rintro e wn ⟨rfl, En⟩; clear E; have E := En; clear En))
        have HB := hid E.bl
        clear E
        go_wp2
        go_ret
        exact ⟨rfl, HB.out⟩
    · have h1i : ¬ (200 : Int) < (s.size : Int) := by omega
      go_wp2_with fail
      refine ((read_num _ s (by unfold maxLen at hs; omega)).mono fun e w' h => HC.out _ _ _ (read_ans h)).mono ?_
      rintro e u1 ⟨n3, a3, k3, c3, rfl, hI3, hb3⟩
      have E2 := (E.next hb3 hI3).box (.bool n3) (.slice a3 k3 c3)
      clear E hb3 hI3 xa0 xa1
      go_wp2_with fail
      refine ((rReadS_any _ s (by unfold maxLen at hs; omega)).mono fun e w' h => HC.out _ _ _ h).mono ?_
      rintro e u2 ⟨n4, a4, k4, c4, rfl, hI4, hb4⟩
      have E3 := ((E2.next hb4 hI4).box (.bool n4) (.slice a4 k4 c4)).drew
      clear E2 hb4 hI4
      have hT : ((str (textOf x)).toList == (str (textOf x)).toList) = true := by simp
      have hcc : (c == c) = true := by simp
      obtain ⟨xc0, xc1, xb0, xb1, xa0, xa1⟩ := cells3 E3
      go_wp2_with fail
      clear xc0 xc1 xb0 xb1 xa0 xa1
      have E := E3
      clear E3
      go_region_held3 (fun W' => W'.cell? ⟨u2.heap.size, 0, none⟩ = some (.bool n4) ∧ W'.cell? ⟨u2.heap.size, 1, none⟩ = some (.slice a4 k4 c4) ∧ W'.cell? ⟨u1.heap.size, 0, none⟩ = some (.bool n3) ∧ W'.cell? ⟨u1.heap.size, 1, none⟩ = some (.slice a3 k3 c3) ∧ W'.cell? ⟨w.heap.size, 0, none⟩ = some (.bool neg) ∧ W'.cell? ⟨w.heap.size, 1, none⟩ = some (.slice ao L cap)) (exact cells3 E) (first
        | (go_at_call 13; go_must (refine (env_text E (by repeat (first | exact List.Mem.head _ | refine List.Mem.tail _ ?_)) (by omega)).mono ?_); rintro e wn ⟨rfl, En⟩; clear E; have E := En; clear En)
        | (go_at_call 14; go_must (refine (env_rtext E (by repeat (first | exact List.Mem.head _ | refine List.Mem.tail _ ?_)) (by omega)).mono ?_); rintro e wn ⟨rfl, En⟩; clear E; have E := En; clear En)
        | (go_at_call 15; go_must (refine (env_same E (by repeat (first | exact List.Mem.head _ | refine List.Mem.tail _ ?_)) (by repeat (first | exact List.Mem.head _ | refine List.Mem.tail _ ?_)) (by rfl)).mono ?_); rintro e wn ⟨rfl, En⟩; clear E; have E := En; clear En)
        | (go_at_call 16; go_must (refine (env_num E _).mono ?_); rintro e wn ⟨rfl, En⟩; clear E; have E := En; clear En)
        | (go_at_call 10; go_must (refine (env_awake E).mono ?_); rintro e wn ⟨rfl, En⟩; clear E; have E := En; clear En))
      have HB := hid E.bl
      clear E
      go_wp2
      go_ret
      exact ⟨rfl, HB.out⟩
  · clear hG
    go_wp2_with fail
    refine (env_awake E).mono ?_
    rintro e u1 ⟨rfl, E1⟩
    have HB := hid E1.bl
    clear E E1
    go_wp2
    go_ret
    exact ⟨rfl, HB.out⟩

end Go.Proofs.Ytkoadlacdgdemaa
