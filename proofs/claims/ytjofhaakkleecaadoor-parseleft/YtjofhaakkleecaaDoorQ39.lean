/-
  Walks: a sum by hand.
-/
import Derived.Test.YtjofhaakkleecaaDoorQ38
namespace Go.Proofs.YtjofhaakkleecaaDoor
open Go.RowKit Lx
set_option linter.unusedSimpArgs false
set_option linter.unusedVariables false
set_option maxRecDepth 100000

/-- A slice of bytes that came in. -/
def BtAt (w : World) (ao : Option Addr) (cap : Nat) (l : List Nat) : Prop :=
  (∀ x ∈ l, x < 256) ∧ l.length ≤ cap ∧ cap ≤ maxLen ∧ (l.length = 0 ∨ ∃ b off, ao = some ⟨b, off, none⟩ ∧ b < w.heap.size ∧ ∀ i, i < l.length → w.cell? ⟨b, off + i, none⟩ = some (.int .u8 ((l.getD i 0 : Nat) : Int)))
def pairAt (l : List Nat) (j : Nat) : Nat × Nat := (l.getD (1 + 2 * j) 0 % 2, l.getD (2 + 2 * j) 0)
def psN (l : List Nat) (j : Nat) : List (Nat × Nat) := (List.range j).map (pairAt l)
theorem psN_succ (l : List Nat) (j : Nat) : psN l (j + 1) = psN l j ++ [pairAt l j] := by unfold psN; rw [List.range_succ, List.map_append]; rfl
theorem psN_len (l : List Nat) (j : Nat) : (psN l j).length = j := by unfold psN; simp
theorem getD_small {l : List Nat} (h : ∀ x ∈ l, x < 256) (i : Nat) : l.getD i 0 < 256 := by
  rw [List.getD_eq_getElem?_getD]
  cases hq : l[i]? with
  | none => simp
  | some x => exact h x (List.mem_of_getElem? hq)
theorem psN_small {l : List Nat} (h : ∀ x ∈ l, x < 256) (j : Nat) : ∀ p ∈ psN l j, p.1 < 2 ∧ p.2 < 256 := by
  intro p hp
  unfold psN at hp
  obtain ⟨i, -, rfl⟩ := List.mem_map.1 hp
  exact ⟨Nat.mod_lt _ (by omega), getD_small h _⟩
/-- The text and the nodes behind so many rounds. -/
def sW (l : List Nat) (j : Nat) : List Nat := sumT (l.getD 0 0) (psN l j)
def tW (l : List Nat) (j : Nat) : List Nd := treeN [⟨1, l.getD 0 0, [], -1, -1⟩] (psN l j)
theorem tailW_app : ∀ (a b : List (Nat × Nat)), tailW (a ++ b) = tailW a ++ tailW b
  | [], b => rfl
  | p :: r, b => by simp [tailW, tailW_app r b]
theorem treeN_app : ∀ (a : List (Nat × Nat)) (ns : List Nd) (b : List (Nat × Nat)), treeN ns (a ++ b) = treeN (treeN ns a) b
  | [], ns, b => rfl
  | p :: r, ns, b => by
    rw [List.cons_append]
    exact treeN_app r _ b
theorem tW_len (l : List Nat) : ∀ j, (tW l j).length = 1 + 2 * j
  | 0 => rfl
  | j + 1 => by
    have := tW_len l j
    unfold tW at this ⊢
    rw [psN_succ, treeN_app]
    simp only [treeN, List.length_append, List.length_cons, List.length_nil]
    omega
def ndV (v : Nat) : Nd := ⟨1, v, [], -1, -1⟩
def ndO (k : Nat) (a b : Int) : Nd := ⟨4 + k, 0, [], a, b⟩
theorem tW_more (l : List Nat) (j : Nat) : tW l (j + 1) = (tW l j ++ [⟨1, (pairAt l j).2, [], -1, -1⟩]) ++ [⟨4 + (pairAt l j).1, 0, [], ((2 * j : Nat) : Int), ((2 * j + 1 : Nat) : Int)⟩] := by
  have h := tW_len l j
  have e1 : lastI (tW l j) = ((2 * j : Nat) : Int) := by unfold lastI; omega
  have e2 : lastI (tW l j ++ [⟨1, (pairAt l j).2, [], -1, -1⟩]) = ((2 * j + 1 : Nat) : Int) := by unfold lastI; rw [List.length_append, h]; simp; omega
  rw [← e1, ← e2]
  unfold tW
  rw [psN_succ, treeN_app]
  rfl
theorem sW_more (l : List Nat) (j : Nat) (A : ByteArray) (hA : A = str ([32] ++ opW (pairAt l j).1 ++ [32])) : str (sW l j) ++ A ++ str (dgN (pairAt l j).2) = str (sW l (j + 1)) := by
  subst hA
  rw [← str_app, ← str_app]
  congr 1
  unfold sW sumT
  rw [psN_succ, tailW_app, flatW_app]
  simp [tailW, flatW]
theorem sW_len {l : List Nat} (h : ∀ x ∈ l, x < 256) (j : Nat) : (sW l j).length ≤ 3 + 6 * j := by
  have := sumT_len (getD_small h 0) (psN_small h j)
  rw [psN_len] at this
  exact this
theorem nd_cells (w : World) (k : Nat) (v : Nat) (a b : Int) (kk vv : Int) (hk : kk = (k : Int)) (hv : vv = (v : Int)) : CellsAt (w.alloc (.cells #[.int .i64 kk, .int .i64 vv, .string ⟨#[]⟩, .int .i64 a, .int .i64 b] 50)) w.heap.size 0 (ndC ⟨k, v, [], a, b⟩) := by
  subst hk hv
  intro c u hu
  have e := cell_of_row (w.alloc (.cells #[.int .i64 (k : Int), .int .i64 (v : Int), .string ⟨#[]⟩, .int .i64 a, .int .i64 b] 50)) w.heap.size c #[.int .i64 (k : Int), .int .i64 (v : Int), .string ⟨#[]⟩, .int .i64 a, .int .i64 b] _ _ (heap_alloc_new w _)
  rw [Nat.zero_add, e, ← hu]
  simp [ndC, str]
theorem nd_own (w : World) (B v : Nat) (hB : B ≤ w.heap.size) : OwnV (w.alloc (.cells #[.int .i64 1, .int .i64 (v : Int), .string ⟨#[]⟩, .int .i64 (-1), .int .i64 (-1)] 50)) B 50 5 (.slice (some ⟨w.heap.size, 0, none⟩) 1 1) ([⟨1, v, [], -1, -1⟩].map ndC) :=
  ⟨rfl, .inr ⟨_, 1, _, rfl, hB, heap_alloc_new w _, Nat.le_refl _, by unfold maxLen; omega, rfl, rfl⟩⟩
theorem own_len {w : World} {base : Nat} {e : TypeId} {v : Value} {L : List Nd} (m : Nat) (h : OwnV w base e 5 v (L.map ndC)) (hm : L.length = m) : ∃ ao c, v = .slice ao m c ∧ m ≤ c ∧ c ≤ maxLen := by
  obtain ⟨ao, c, rfl, h1, h2, -⟩ := h.shape (by simp; intro t _; rfl)
  rw [List.length_map, hm] at h1 ⊢
  exact ⟨ao, c, rfl, h1, h2⟩
theorem own_app {w : World} {base : Nat} {e : TypeId} {v : Value} {L : List Nd} {t : Nd} (h : OwnV w base e 5 v (L.map ndC ++ [ndC t])) : OwnV w base e 5 v ((L ++ [t]).map ndC) := by
  rw [List.map_append]
  exact h
set_option maxHeartbeats 3200000 in
theorem tree_any (w : World) (ao : Option Addr) (cap : Nat) (l : List Nat) (h : BtAt w ao cap l) (hl0 : 0 < l.length) (hl1 : l.length ≤ 100) :
    Calls Tryd.prog 11 #[.slice ao l.length cap] w fun e w' => ∃ lv, e = .returned (.tuple #[.string (str (sW l ((l.length - 1) / 2))), lv]) ∧ OwnV w' w.heap.size 50 5 lv ((tW l ((l.length - 1) / 2)).map ndC) ∧ Below w.heap.size w w' := by
  obtain ⟨hsm, hc1, hc2, hc3⟩ := h
  obtain ⟨b, off, rfl, hb, hcell⟩ := hc3.resolve_left (by omega)
  have HSM := hid hsm
  have HC := hid hcell
  obtain ⟨N, hN⟩ : ∃ N, N = l.length := ⟨_, rfl⟩
  have HN := hid hN
  rw [← hN] at hl0 hl1 hc1 ⊢
  have c0 := hcell 0 (by omega)
  rw [Nat.add_zero] at c0
  obtain ⟨v, hv⟩ : ∃ v, l.getD 0 0 = v := ⟨_, rfl⟩
  have hv2 : v < 256 := by rw [← hv]; exact getD_small hsm 0
  rw [hv] at c0
  have HV := hid hv
  have hw1 : IntKind.i64.wrap (v : Int) = (v : Int) := by rw [IntKind.wrap_i64]; omega
  unfold maxLen at hc2
  clear hsm hc3 hcell hN hv
  go_enter Tryd.func11, Tryd.ntmps11
  go_wp2_with fail
  refine (digits_any _ v hv2).mono ?_
  rintro e w1 ⟨rfl, hb1⟩
  have c0 := (hb1.cell (p := ⟨b, off, none⟩) hb).trans c0
  have HB1 := hid hb1
  have HO1 := hid (nd_own w1 w.heap.size v hb1.size)
  go_wp2_with fail
  have HW1 := hid (HB1.out.alloc HB1.out.size (.cells #[.int .i64 1, .int .i64 (v : Int), .string ⟨#[]⟩, .int .i64 (-1), .int .i64 (-1)] 50))
  clear c0 hb1
  generalize w1.alloc (.cells #[.int .i64 1, .int .i64 (v : Int), .string ⟨#[]⟩, .int .i64 (-1), .int .i64 (-1)] 50) = W1 at *
  go_loopw [4, 5, 6] (fun sv lv iv wr => ∃ i j : Nat, i = 1 + 2 * j ∧ i ≤ N ∧ sv = .string (str (sW l j)) ∧ iv = .int .i64 (i : Int) ∧ OwnV wr w.heap.size 50 5 lv ((tW l j).map ndC) ∧ Below w.heap.size w wr) (fun sv lv iv wr => N - (intOf iv).toNat)
  case atStart => exact ⟨1, 0, rfl, hl0, by unfold sW sumT; rw [HV.out]; simp [psN, tailW, flatW], rfl, by unfold tW; rw [HV.out]; exact HO1.out, HW1.out⟩
  case round =>
    obtain ⟨i, j, hij, hin, rfl, rfl, hown, hbw⟩ := hrel
    obtain ⟨ag, cg, rfl, hg1, hg2⟩ := own_len (1 + 2 * j) hown (tW_len l j)
    obtain ⟨L1, hL1⟩ : ∃ L1, 1 + 2 * j = L1 := ⟨_, rfl⟩
    rw [hL1] at hown hg1 ⊢
    unfold maxLen at hg2
    by_cases hlt : i + 1 < N
    · have hii : (i : Int) + 1 < (N : Int) := by omega
      have hi0 : (0 : Int) ≤ (i : Int) := by omega
      have hiN : (i : Int) < (N : Int) := by omega
      obtain ⟨kb, hkb⟩ : ∃ kb, l.getD i 0 = kb := ⟨_, rfl⟩
      obtain ⟨vb, hvb⟩ : ∃ vb, l.getD (i + 1) 0 = vb := ⟨_, rfl⟩
      have hk6 : kb < 256 := by rw [← hkb]; exact getD_small HSM.out _
      have hv6 : vb < 256 := by rw [← hvb]; exact getD_small HSM.out _
      have x1 := (hbw.cell (p := ⟨b, off + i, none⟩) hb).trans (HC.out i (by have := HN.out; omega))
      have x2 := (hbw.cell (p := ⟨b, off + (i + 1), none⟩) hb).trans (HC.out (i + 1) (by have := HN.out; omega))
      rw [hkb] at x1
      rw [hvb] at x2
      have hpair : pairAt l j = (kb % 2, vb) := by unfold pairAt; rw [show 1 + 2 * j = i by omega, show 2 + 2 * j = i + 1 by omega, hkb, hvb]
      have HSW := sW_more l j
      have HTW := tW_more l j
      rw [hpair] at HSW HTW
      have hwk : IntKind.i64.wrap (kb : Int) = (kb : Int) := by rw [IntKind.wrap_i64]; omega
      have hwv : IntKind.i64.wrap (vb : Int) = (vb : Int) := by rw [IntKind.wrap_i64]; omega
      have hk2 : kb % 2 = 0 ∨ kb % 2 = 1 := by omega
      obtain ⟨n1, hz1, hn1⟩ : ∃ n1, (str (sW l j)).size = n1 ∧ n1 ≤ 700 := ⟨_, rfl, by rw [size_str]; have := sW_len HSM.out j; omega⟩
      obtain ⟨n2, hz2, hn2⟩ : ∃ n2, (str (dgN vb)).size = n2 ∧ n2 ≤ 3 := ⟨_, rfl, by rw [size_str]; exact (dg_facts vb hv6).2.2.2.2.2⟩
      have hq1 : ¬ 9223372036854775807 < n1 + 3 := by omega
      have hq2 : ¬ 9223372036854775807 < n1 + 3 + n2 := by omega
      have HB := hid hbw
      have HOW := hid hown
      have HDG := hid (fun W => digits_any W vb hv6)
      have HTW := hid HTW
      have HIJ := hid hij
      clear hpair hkb hvb hbw hown hij
      rcases hk2 with hk2 | hk2
      · have hkm : Int.tmod (kb : Int) 2 = 0 := by rw [Int.tmod_eq_emod_of_nonneg (by omega)]; omega
        have HSS := hid (HSW ⟨#[32, 43, 32]⟩ (by rw [hk2]; rfl))
        have HK := hid hk2
        clear HSW
        go_wp2_with fail
        go_cut [4] (fun sv wc => sv = .string (str (sW l (j + 1))) ∧ Below wr.heap.size wr wc)
        case first =>
          have lb : b < wr.heap.size := Nat.lt_of_lt_of_le hb HB.out.size
          have z1 : (World.drew wr).cell? ⟨b, off + (i + 1), none⟩ = some (.int .u8 (vb : Int)) := x2
          have z2 : (World.drew (wr.alloc (.cells #[.string ⟨#[32, 43, 32]⟩, .string ⟨#[32, 45, 32]⟩] 9))).cell? ⟨b, off + (i + 1), none⟩ = some (.int .u8 (vb : Int)) := (((Below.refl wr.heap.size wr).alloc (Nat.le_refl _) (.cells #[.string ⟨#[32, 43, 32]⟩, .string ⟨#[32, 45, 32]⟩] 9)).cell (p := ⟨b, off + (i + 1), none⟩) lb).trans x2
          have hi1 : (0 : Int) ≤ (i : Int) + 1 := by omega
          have hwi : IntKind.i64.wrap ((i : Int) + 1) = (i : Int) + 1 := by rw [IntKind.wrap_i64]; omega
          have hto : ((i : Int) + 1).toNat = i + 1 := by omega
          go_region_with (first
            | (go_at_call 17; (with_reducible refine (HDG.out wr.drew).mono ?_); rintro e w2 ⟨rfl, hb2⟩)
            | (go_at_call 17; refine (HDG.out (World.drew (wr.alloc (.cells #[.string ⟨#[32, 43, 32]⟩, .string ⟨#[32, 45, 32]⟩] 9)))).mono ?_; rintro e w2 ⟨rfl, hb2⟩; have hf : w2.cell? ⟨wr.heap.size, 0, none⟩ = some (.string ⟨#[32, 43, 32]⟩) := (hb2.cell (p := ⟨wr.heap.size, 0, none⟩) (by simp)).trans (by show (wr.alloc (.cells #[.string ⟨#[32, 43, 32]⟩, .string ⟨#[32, 45, 32]⟩] 9)).cell? _ = _; rw [cell_of_row (wr.alloc (.cells #[.string ⟨#[32, 43, 32]⟩, .string ⟨#[32, 45, 32]⟩] 9)) wr.heap.size 0 #[.string ⟨#[32, 43, 32]⟩, .string ⟨#[32, 45, 32]⟩] 9 (0, 0) (heap_alloc_new wr _)]; rfl)))
          all_goals
            have HB2 := hid hb2
            clear hb2 z1 z2
            go_wp2_with fail
            go_meet
            refine ⟨congrArg Value.string HSS.out, ?_⟩
            first
              | exact below_call ((Below.refl wr.heap.size wr).alloc (Nat.le_refl _) (.cells #[.string ⟨#[32, 43, 32]⟩, .string ⟨#[32, 45, 32]⟩] 9)).drew HB2.out (by simp)
              | exact (below_call (Below.refl wr.heap.size wr).drew HB2.out (Nat.le_refl _)).alloc (below_call (Below.refl wr.heap.size wr).drew HB2.out (Nat.le_refl _)).size _
        case rest =>
          obtain ⟨rfl, hbc⟩ := hcut
          have x2 := (hbc.cell (p := ⟨b, off + (i + 1), none⟩) (Nat.lt_of_lt_of_le hb HB.out.size)).trans x2
          have HOc := hid (HOW.out.below hbc)
          have HBc := hid (below_call HB.out hbc HB.out.size)
          have hlen := hid (tW_len l j)
          obtain ⟨A, hA⟩ : ∃ A, A = 2 * j := ⟨_, rfl⟩
          obtain ⟨L2, hL2⟩ : ∃ L2, L2 = L1 + 1 := ⟨_, rfl⟩
          have hij2 := HIJ.out
          have hw64 : wrap64 ((L1 : Int) - 1) = (A : Int) := by unfold wrap64; omega
          have hw65 : wrap64 ((L2 : Int) - 1) = (L1 : Int) := by unfold wrap64; omega
          have hw66 : IntKind.i64.wrap ((L1 : Int) - 1) = (A : Int) := by rw [IntKind.wrap_i64]; omega
          have hw67 : IntKind.i64.wrap ((L2 : Int) - 1) = (L1 : Int) := by rw [IntKind.wrap_i64]; omega
          have HTL := hid (show (tW l j ++ [ndV vb]).length = L2 by rw [List.length_append, tW_len]; simp; omega)
          have HLK := hid (show ((tW l j).map ndC).length ≤ 1000000 by rw [List.length_map, tW_len]; omega)
          have HLK2 := hid (show ((tW l j ++ [ndV vb]).map ndC).length ≤ 1000000 by rw [List.length_map, HTL.out]; omega)
          have HTM := hid (show tW l (j + 1) = (tW l j ++ [ndV vb]) ++ [ndO 0 (A : Int) (L1 : Int)] by rw [HTW.out, HK.out, hA, show L1 = 2 * j + 1 by omega]; rfl)
          have HOc2 := hid (HOc.out.below ((Below.refl wc.heap.size wc).alloc (Nat.le_refl _) (.cells #[.int .i64 1, .int .i64 (vb : Int), .string ⟨#[]⟩, .int .i64 (-1), .int .i64 (-1)] 50)))
          have HSZ := hid (show w.heap.size ≤ (wc.alloc (.cells #[.int .i64 1, .int .i64 (vb : Int), .string ⟨#[]⟩, .int .i64 (-1), .int .i64 (-1)] 50)).heap.size by have := HBc.out.size; simp; omega)
          have HI := hid (show 1 + 2 * (j + 1) = i + 2 by omega)
          clear hbc x1 hij2 hA hL2 hL1 HTW HIJ
          go_wp2_with (first
            | (at_builtin; (refine wpList_append_v 40 50 5 48 _ Tryd.underlying40 Tryd.infoNd rfl (by decide) (by decide) rfl (.tmp 60) (.tmp 68) rfl w.heap.size _ ((tW l j ++ [ndV vb]).map ndC) rfl (OwnV.below (own_app hown3) ((Below.refl w3.heap.size w3).alloc (Nat.le_refl _) (.cells #[.int .i64 4, .int .i64 0, .string ⟨#[]⟩, .int .i64 (A : Int), .int .i64 (L1 : Int)] 50))) w3.heap.size 1 (ndC (ndO 0 (A : Int) (L1 : Int))) rfl rfl (nd_cells w3 (4 + 0) 0 (A : Int) (L1 : Int) _ _ rfl rfl) (ndC_one _) HLK2.out (by have h1 := HBc.out.size; have h2 := hg3.size; simp at h2 ⊢; omega) ?_); intro v4 w4 hown4 hg4)
            | (at_builtin; go_must (refine wpList_append_v 40 50 5 48 _ Tryd.underlying40 Tryd.infoNd rfl (by decide) (by decide) rfl (.tmp 50) (.tmp 58) rfl w.heap.size _ ((tW l j).map ndC) rfl HOc2.out wc.heap.size 1 (ndC (ndV vb)) rfl rfl (nd_cells wc 1 vb (-1) (-1) 1 (vb : Int) rfl rfl) (ndC_one _) HLK.out HSZ.out ?_); intro v3 w3 hown3 hg3; obtain ⟨ao3, c3, rfl, -⟩ := own_len L2 (own_app hown3) HTL.out))
          have HOL := hid (World.ownsRow.lt HOc2.out)
          have HOL3 := hid (World.ownsRow.lt hown3)
          have hbl3 := (HBc.out.alloc HBc.out.size (.cells #[.int .i64 1, .int .i64 (vb : Int), .string ⟨#[]⟩, .int .i64 (-1), .int .i64 (-1)] 50)).grown hg3 (by have := HBc.out.size; simp; omega) (fun g e => (HOL.out g e).1)
          have hbl4 := (hbl3.alloc hbl3.size (.cells #[.int .i64 4, .int .i64 0, .string ⟨#[]⟩, .int .i64 (A : Int), .int .i64 (L1 : Int)] 50)).grown hg4 (by have := hbl3.size; simp; omega) (fun g e => (HOL3.out g e).1)
          refine ⟨⟨i + 2, j + 1, by have := HI.out; omega, by omega, rfl, by go_num, by rw [HTM.out]; exact own_app hown4, hbl4⟩, ?_⟩
          simp only [intOf]
          omega
      · have hkm : Int.tmod (kb : Int) 2 = 1 := by rw [Int.tmod_eq_emod_of_nonneg (by omega)]; omega
        have HSS := hid (HSW ⟨#[32, 45, 32]⟩ (by rw [hk2]; rfl))
        have HK := hid hk2
        clear HSW
        go_wp2_with fail
        go_cut [4] (fun sv wc => sv = .string (str (sW l (j + 1))) ∧ Below wr.heap.size wr wc)
        case first =>
          have lb : b < wr.heap.size := Nat.lt_of_lt_of_le hb HB.out.size
          have z1 : (World.drew wr).cell? ⟨b, off + (i + 1), none⟩ = some (.int .u8 (vb : Int)) := x2
          have z2 : (World.drew (wr.alloc (.cells #[.string ⟨#[32, 43, 32]⟩, .string ⟨#[32, 45, 32]⟩] 9))).cell? ⟨b, off + (i + 1), none⟩ = some (.int .u8 (vb : Int)) := (((Below.refl wr.heap.size wr).alloc (Nat.le_refl _) (.cells #[.string ⟨#[32, 43, 32]⟩, .string ⟨#[32, 45, 32]⟩] 9)).cell (p := ⟨b, off + (i + 1), none⟩) lb).trans x2
          have hi1 : (0 : Int) ≤ (i : Int) + 1 := by omega
          have hwi : IntKind.i64.wrap ((i : Int) + 1) = (i : Int) + 1 := by rw [IntKind.wrap_i64]; omega
          have hto : ((i : Int) + 1).toNat = i + 1 := by omega
          go_region_with (first
            | (go_at_call 17; (with_reducible refine (HDG.out wr.drew).mono ?_); rintro e w2 ⟨rfl, hb2⟩)
            | (go_at_call 17; refine (HDG.out (World.drew (wr.alloc (.cells #[.string ⟨#[32, 43, 32]⟩, .string ⟨#[32, 45, 32]⟩] 9)))).mono ?_; rintro e w2 ⟨rfl, hb2⟩; have hf : w2.cell? ⟨wr.heap.size, 1, none⟩ = some (.string ⟨#[32, 45, 32]⟩) := (hb2.cell (p := ⟨wr.heap.size, 1, none⟩) (by simp)).trans (by show (wr.alloc (.cells #[.string ⟨#[32, 43, 32]⟩, .string ⟨#[32, 45, 32]⟩] 9)).cell? _ = _; rw [cell_of_row (wr.alloc (.cells #[.string ⟨#[32, 43, 32]⟩, .string ⟨#[32, 45, 32]⟩] 9)) wr.heap.size 1 #[.string ⟨#[32, 43, 32]⟩, .string ⟨#[32, 45, 32]⟩] 9 (0, 0) (heap_alloc_new wr _)]; rfl)))
          all_goals
            have HB2 := hid hb2
            clear hb2 z1 z2
            go_wp2_with fail
            go_meet
            refine ⟨congrArg Value.string HSS.out, ?_⟩
            first
              | exact below_call ((Below.refl wr.heap.size wr).alloc (Nat.le_refl _) (.cells #[.string ⟨#[32, 43, 32]⟩, .string ⟨#[32, 45, 32]⟩] 9)).drew HB2.out (by simp)
              | exact (below_call (Below.refl wr.heap.size wr).drew HB2.out (Nat.le_refl _)).alloc (below_call (Below.refl wr.heap.size wr).drew HB2.out (Nat.le_refl _)).size _
        case rest =>
          obtain ⟨rfl, hbc⟩ := hcut
          have x2 := (hbc.cell (p := ⟨b, off + (i + 1), none⟩) (Nat.lt_of_lt_of_le hb HB.out.size)).trans x2
          have HOc := hid (HOW.out.below hbc)
          have HBc := hid (below_call HB.out hbc HB.out.size)
          have hlen := hid (tW_len l j)
          obtain ⟨A, hA⟩ : ∃ A, A = 2 * j := ⟨_, rfl⟩
          obtain ⟨L2, hL2⟩ : ∃ L2, L2 = L1 + 1 := ⟨_, rfl⟩
          have hij2 := HIJ.out
          have hw64 : wrap64 ((L1 : Int) - 1) = (A : Int) := by unfold wrap64; omega
          have hw65 : wrap64 ((L2 : Int) - 1) = (L1 : Int) := by unfold wrap64; omega
          have hw66 : IntKind.i64.wrap ((L1 : Int) - 1) = (A : Int) := by rw [IntKind.wrap_i64]; omega
          have hw67 : IntKind.i64.wrap ((L2 : Int) - 1) = (L1 : Int) := by rw [IntKind.wrap_i64]; omega
          have HTL := hid (show (tW l j ++ [ndV vb]).length = L2 by rw [List.length_append, tW_len]; simp; omega)
          have HLK := hid (show ((tW l j).map ndC).length ≤ 1000000 by rw [List.length_map, tW_len]; omega)
          have HLK2 := hid (show ((tW l j ++ [ndV vb]).map ndC).length ≤ 1000000 by rw [List.length_map, HTL.out]; omega)
          have HTM := hid (show tW l (j + 1) = (tW l j ++ [ndV vb]) ++ [ndO 1 (A : Int) (L1 : Int)] by rw [HTW.out, HK.out, hA, show L1 = 2 * j + 1 by omega]; rfl)
          have HOc2 := hid (HOc.out.below ((Below.refl wc.heap.size wc).alloc (Nat.le_refl _) (.cells #[.int .i64 1, .int .i64 (vb : Int), .string ⟨#[]⟩, .int .i64 (-1), .int .i64 (-1)] 50)))
          have HSZ := hid (show w.heap.size ≤ (wc.alloc (.cells #[.int .i64 1, .int .i64 (vb : Int), .string ⟨#[]⟩, .int .i64 (-1), .int .i64 (-1)] 50)).heap.size by have := HBc.out.size; simp; omega)
          have HI := hid (show 1 + 2 * (j + 1) = i + 2 by omega)
          clear hbc x1 hij2 hA hL2 hL1 HTW HIJ
          go_wp2_with (first
            | (at_builtin; (refine wpList_append_v 40 50 5 48 _ Tryd.underlying40 Tryd.infoNd rfl (by decide) (by decide) rfl (.tmp 60) (.tmp 68) rfl w.heap.size _ ((tW l j ++ [ndV vb]).map ndC) rfl (OwnV.below (own_app hown3) ((Below.refl w3.heap.size w3).alloc (Nat.le_refl _) (.cells #[.int .i64 5, .int .i64 0, .string ⟨#[]⟩, .int .i64 (A : Int), .int .i64 (L1 : Int)] 50))) w3.heap.size 1 (ndC (ndO 1 (A : Int) (L1 : Int))) rfl rfl (nd_cells w3 (4 + 1) 0 (A : Int) (L1 : Int) _ _ rfl rfl) (ndC_one _) HLK2.out (by have h1 := HBc.out.size; have h2 := hg3.size; simp at h2 ⊢; omega) ?_); intro v4 w4 hown4 hg4)
            | (at_builtin; go_must (refine wpList_append_v 40 50 5 48 _ Tryd.underlying40 Tryd.infoNd rfl (by decide) (by decide) rfl (.tmp 50) (.tmp 58) rfl w.heap.size _ ((tW l j).map ndC) rfl HOc2.out wc.heap.size 1 (ndC (ndV vb)) rfl rfl (nd_cells wc 1 vb (-1) (-1) 1 (vb : Int) rfl rfl) (ndC_one _) HLK.out HSZ.out ?_); intro v3 w3 hown3 hg3; obtain ⟨ao3, c3, rfl, -⟩ := own_len L2 (own_app hown3) HTL.out))
          have HOL := hid (World.ownsRow.lt HOc2.out)
          have HOL3 := hid (World.ownsRow.lt hown3)
          have hbl3 := (HBc.out.alloc HBc.out.size (.cells #[.int .i64 1, .int .i64 (vb : Int), .string ⟨#[]⟩, .int .i64 (-1), .int .i64 (-1)] 50)).grown hg3 (by have := HBc.out.size; simp; omega) (fun g e => (HOL.out g e).1)
          have hbl4 := (hbl3.alloc hbl3.size (.cells #[.int .i64 5, .int .i64 0, .string ⟨#[]⟩, .int .i64 (A : Int), .int .i64 (L1 : Int)] 50)).grown hg4 (by have := hbl3.size; simp; omega) (fun g e => (HOL3.out g e).1)
          refine ⟨⟨i + 2, j + 1, by have := HI.out; omega, by omega, rfl, by go_num, by rw [HTM.out]; exact own_app hown4, hbl4⟩, ?_⟩
          simp only [intOf]
          omega
    · have hii : ¬ (i : Int) + 1 < (N : Int) := by omega
      have hj : j = (N - 1) / 2 := by omega
      have HB := hid hbw
      have HOW := hid hown
      subst hj
      clear hbw hown
      go_wp2
      refine bodyPost_ret (v := .tuple #[.string (str (sW l ((N - 1) / 2))), .slice ag L1 cg]) ?_ rfl ⟨_, rfl, HOW.out, HB.out⟩
      simp [results, Tryd.results11, go_sem]
end Go.Proofs.YtjofhaakkleecaaDoor
