/-
  Whether an answer holds.
-/
import Derived.Test.YtmnlggmdomcajaaGreatL12
namespace Go.Proofs.YtmnlggmdomcajaaGreat
open Go.RowKit Lm
set_option linter.unusedSimpArgs false
set_option linter.unusedVariables false
set_option maxRecDepth 100000

theorem cmpR_le0 (r t : Rat) : cmpR r t ≤ 0 ↔ r ≤ t := by
  rcases cmpR_or r t with ⟨h, e⟩ | ⟨h, e⟩ | ⟨h, e⟩ <;> rw [e]
  · exact ⟨fun _ => Rat.le_of_lt h, fun _ => by omega⟩
  · exact ⟨fun _ => by rw [h]; exact Rat.le_refl, fun _ => by omega⟩
  · exact ⟨fun h' => by omega, fun h' => absurd h (Rat.not_lt.2 h')⟩
theorem and2 {x y : Bool} (h : (x && y) = true) : x = true ∧ y = true := by simpa using h
/-- What must be so of the three kinds, in the program's order. -/
def l1B (p : LPd) (a : Ansd) (nn : Nat) : Nat → Bool
  | 0 => withinB p.n p.ka p.kb p.kc p.M p.B a.X
  | 1 => decide (a.ky = p.ka) && allB (fitB a.Y) a.ky
  | 2 => decide (a.ky = p.ka) && allB (evenB (timesR (cols p.M nn) a.Y) p.C) nn
  | 3 => decide (p.kc = a.kx) && (cmpR (dotR p.C a.X) a.V == 0)
  | 4 => decide (a.ky = p.kb) && (cmpR (dotR a.Y p.B) a.V == 0)
  | _ => (a.kr : Int) == 0
def l2B (p : LPd) (a : Ansd) (nn : Nat) : Nat → Bool
  | 0 => decide (a.ky = p.ka) && allB (fitB a.Y) a.ky
  | 1 => decide (a.ky = p.ka) && allB (zeroB (timesR (cols p.M nn) a.Y)) nn
  | 2 => decide (a.ky = p.kb) && (decide (cmpR (dotR a.Y p.B) 0 < 0))
  | 3 => (a.kx : Int) == 0
  | 4 => (a.kr : Int) == 0
  | _ => cmpR a.V 0 == 0
def l3B (p : LPd) (a : Ansd) : Nat → Bool
  | 0 => withinB p.n p.ka p.kb p.kc p.M p.B a.X
  | 1 => decide ((a.kr : Int) = p.n) && allB (downB (timesR p.M a.R)) p.ka
  | 2 => decide (p.kc = a.kr) && (decide (0 < cmpR (dotR p.C a.R) 0))
  | 3 => (a.ky : Int) == 0
  | _ => cmpR a.V 0 == 0
def l1F : Nat → Value
  | 0 => .func (.func 62) #[] #[]
  | 1 => .func (.func 63) #[] #[]
  | 2 => .func (.func 64) #[] #[]
  | 3 => .func (.func 65) #[] #[]
  | 4 => .func (.func 66) #[] #[]
  | _ => .func (.func 67) #[] #[]
def l2F : Nat → Value
  | 0 => .func (.func 63) #[] #[]
  | 1 => .func (.func 68) #[] #[]
  | 2 => .func (.func 69) #[] #[]
  | 3 => .func (.func 70) #[] #[]
  | 4 => .func (.func 67) #[] #[]
  | _ => .func (.func 71) #[] #[]
def l3F : Nat → Value
  | 0 => .func (.func 62) #[] #[]
  | 1 => .func (.func 72) #[] #[]
  | 2 => .func (.func 73) #[] #[]
  | 3 => .func (.func 74) #[] #[]
  | _ => .func (.func 71) #[] #[]
def holdsB (p : LPd) (a : Ansd) (nn : Nat) : Bool :=
  rightB p.n p.ka p.kb p.kc p.M && (if a.kd = 1 then allB (l1B p a nn) 6 else if a.kd = 2 then allB (l2B p a nn) 6 else if a.kd = 3 then allB (l3B p a) 5 else false)

theorem kind1_any (w : World) (p : LPd) (a : Ansd) (b cap g g' nn : Nat) (hnn : p.n = nn) (hp : p.At w) (ha : a.At w) (hR : rightB p.n p.ka p.kb p.kc p.M = true) (bP : BoxL w g (.int .i64 p.n) (.slice p.ao p.ka p.ca) (.slice p.bo p.kb p.cb) (.slice p.co p.kc p.cc)) (bA : BoxA w g' a) (hb : b < w.heap.size) (hF : ∀ i, i < 6 → w.cell? ⟨b, i, none⟩ = some (l1F i)) :
    Calls Tryz.prog 75 #[.slice (some ⟨b, 0, none⟩) (6 : Nat) cap, .func (.func 76) #[] #[.pointer (some ⟨g, 0, none⟩), .pointer (some ⟨g', 0, none⟩)]] w (Looked (allB (l1B p a nn) 6) w) := by
  refine each_looks w b cap 6 g g' l1F _ (by omega) hb hF (fun i hi W hbW => ?_)
  have hp' := hp.below hbW
  have ha' := ha.below hbW
  have bP' := bP.keep hbW
  have bA' := bA.keep hbW
  rcases (show i = 0 ∨ i = 1 ∨ i = 2 ∨ i = 3 ∨ i = 4 ∨ i = 5 by omega) with rfl | rfl | rfl | rfl | rfl | rfl
  · exact h1_pointIsWithin W p a g g' _ _ bP' bA' (pointIsWithin_any W p a hp' ha')
  · exact h1_weightsFit W p a g g' _ _ bP' bA' (weightsFit_any W p a hp' ha')
  · exact h1_weightsMakeC W p a g g' _ _ bP' bA' (weightsMakeC_any W p a hp' ha' hR nn hnn)
  · exact h1_pointReachesV W p a g g' _ _ bP' bA' (pointReachesV_any W p a hp' ha' hR)
  · exact h1_weightsBoundByV W p a g g' _ _ bP' bA' (weightsBoundByV_any W p a hp' ha' hR)
  · exact h1_noRay W p a g g' _ _ bP' bA' (noRay_any W p a hp' ha')
theorem kind2_any (w : World) (p : LPd) (a : Ansd) (b cap g g' nn : Nat) (hnn : p.n = nn) (hp : p.At w) (ha : a.At w) (hR : rightB p.n p.ka p.kb p.kc p.M = true) (bP : BoxL w g (.int .i64 p.n) (.slice p.ao p.ka p.ca) (.slice p.bo p.kb p.cb) (.slice p.co p.kc p.cc)) (bA : BoxA w g' a) (hb : b < w.heap.size) (hF : ∀ i, i < 6 → w.cell? ⟨b, i, none⟩ = some (l2F i)) :
    Calls Tryz.prog 75 #[.slice (some ⟨b, 0, none⟩) (6 : Nat) cap, .func (.func 76) #[] #[.pointer (some ⟨g, 0, none⟩), .pointer (some ⟨g', 0, none⟩)]] w (Looked (allB (l2B p a nn) 6) w) := by
  refine each_looks w b cap 6 g g' l2F _ (by omega) hb hF (fun i hi W hbW => ?_)
  have hp' := hp.below hbW
  have ha' := ha.below hbW
  have bP' := bP.keep hbW
  have bA' := bA.keep hbW
  rcases (show i = 0 ∨ i = 1 ∨ i = 2 ∨ i = 3 ∨ i = 4 ∨ i = 5 by omega) with rfl | rfl | rfl | rfl | rfl | rfl
  · exact h1_weightsFit W p a g g' _ _ bP' bA' (weightsFit_any W p a hp' ha')
  · exact h1_weightsMakeNought W p a g g' _ _ bP' bA' (weightsMakeN_any W p a hp' ha' hR nn hnn)
  · exact h1_weightsBoundBelowNought W p a g g' _ _ bP' bA' (weightsBelow_any W p a hp' ha' hR)
  · exact h1_noPoint W p a g g' _ _ bP' bA' (noPoint_any W p a hp' ha')
  · exact h1_noRay W p a g g' _ _ bP' bA' (noRay_any W p a hp' ha')
  · exact h1_noV W p a g g' _ _ bP' bA' (noV_any W p a hp' ha')
theorem kind3_any (w : World) (p : LPd) (a : Ansd) (b cap g g' : Nat) {nn : Nat} (hnn : p.n = nn) (hp : p.At w) (ha : a.At w) (hR : rightB p.n p.ka p.kb p.kc p.M = true) (bP : BoxL w g (.int .i64 p.n) (.slice p.ao p.ka p.ca) (.slice p.bo p.kb p.cb) (.slice p.co p.kc p.cc)) (bA : BoxA w g' a) (hb : b < w.heap.size) (hF : ∀ i, i < 5 → w.cell? ⟨b, i, none⟩ = some (l3F i)) :
    Calls Tryz.prog 75 #[.slice (some ⟨b, 0, none⟩) (5 : Nat) cap, .func (.func 76) #[] #[.pointer (some ⟨g, 0, none⟩), .pointer (some ⟨g', 0, none⟩)]] w (Looked (allB (l3B p a) 5) w) := by
  refine each_looks w b cap 5 g g' l3F _ (by omega) hb hF (fun i hi W hbW => ?_)
  have hp' := hp.below hbW
  have ha' := ha.below hbW
  have bP' := bP.keep hbW
  have bA' := bA.keep hbW
  rcases (show i = 0 ∨ i = 1 ∨ i = 2 ∨ i = 3 ∨ i = 4 by omega) with rfl | rfl | rfl | rfl | rfl
  · exact h1_pointIsWithin W p a g g' _ _ bP' bA' (pointIsWithin_any W p a hp' ha')
  · exact h1_rayStaysWithin W p a g g' _ _ bP' bA' (rayStays_any W p a hp' ha' hR)
  · exact h1_rayRises W p a g g' _ _ bP' bA' (rayRises_any W p a hp' ha' hR)
  · exact h1_noWeights W p a g g' _ _ bP' bA' (noWeights_any W p a hp' ha')
  · exact h1_noV W p a g g' _ _ bP' bA' (noV_any W p a hp' ha')

end Go.Proofs.YtmnlggmdomcajaaGreat
