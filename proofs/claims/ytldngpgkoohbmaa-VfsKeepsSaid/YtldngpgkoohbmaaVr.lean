/- The same bytes are told as such; the states that VfsMoves goes through. -/
import Derived.Test.YtldngpgkoohbmaaVp
namespace Go.Proofs.Ytldngpgkoohbmaa
open Go.RowKit Go.Maps Go.Sort

def sA (x : List UInt8) (sx : Nat) (y : List UInt8) (fr : Nat) : Sta := ⟨[([97], x, sx), ([98], y, 0)], fr, 0, false⟩
def sB (x : List UInt8) (sx : Nat) (fr : Nat) : Sta := ⟨[([98], x, sx)], fr, 0, false⟩
theorem sA_ok {x y : List UInt8} {sx fr : Nat} (h : x.length + y.length ≤ 10000) (hf : fr ≤ 2000000) : Ok (sA x sx y fr) := by
  have e : tot (sA x sx y fr).V = x.length + y.length := by simp [sA, tot]
  refine ⟨by simp [sA], by rw [e]; omega, ?_, by simp [sA], fun t ht => ?_⟩
  · rw [e]; show fr + _ ≤ _; omega
  · have : t = ([97], x, sx) ∨ t = ([98], y, 0) := by simpa [sA] using ht
    rcases this with rfl | rfl <;> (show 1 ≤ 40; decide)
theorem sB_ok {x : List UInt8} {sx fr : Nat} (h : x.length ≤ 10000) (hf : fr ≤ 2000000) : Ok (sB x sx fr) := by
  have e : tot (sB x sx fr).V = x.length := by simp [sB, tot]
  refine ⟨by simp [sB], by rw [e]; omega, ?_, by simp [sB], fun t ht => ?_⟩
  · rw [e]; show fr + _ ≤ _; omega
  · obtain rfl : t = ([98], x, sx) := by simpa [sB] using ht
    show 1 ≤ 40; decide
theorem mv0 : createS [97] ⟨[], 1048576, 0, false⟩ = (0, ⟨[([97], [], 0)], 1048576, 0, false⟩) := by kernel_rfl
theorem mv1 : createS [98] ⟨[([97], [], 0)], 1048576, 0, false⟩ = (0, sA [] 0 [] 1048576) := by kernel_rfl
theorem mv2 {x y z : List UInt8} {sx fr : Nat} (h : z.length ≤ fr) : appendS [97] z (sA x sx y fr) = (0, sA (x ++ z) sx y (fr - z.length)) := by
  show (if fr < z.length then _ else _) = _
  rw [if_neg (by omega)]; rfl
theorem mv3 {x z : List UInt8} {sx fr : Nat} (h : z.length ≤ fr) : appendS [98] z (sA x sx [] fr) = (0, sA x sx z (fr - z.length)) := by
  show (if fr < z.length then _ else _) = _
  rw [if_neg (by omega)]; rfl
theorem mv4 {x y : List UInt8} {sx fr : Nat} : syncS [97] (sA x sx y fr) = (0, sA x x.length y fr) := rfl
theorem mv6 {x y : List UInt8} {sx fr : Nat} : renameS [97] [97] (sA x sx y fr) = (0, sA x sx y fr) := rfl
theorem mv7 {x y : List UInt8} {sx fr : Nat} : renameS [97] [98] (sA x sx y fr) = (0, sB x sx (fr + y.length)) := rfl
theorem mv8 {x : List UInt8} {sx fr : Nat} : renameS [97] [99] (sB x sx fr) = (4, sB x sx fr) := rfl
theorem mv9 {x : List UInt8} {sx fr : Nat} : readS [98] (sB x sx fr) = (0, x) := rfl
theorem mv10 {x : List UInt8} {sx fr m : Nat} (k : Int) (hs : sx ≤ x.length) (hm : m = sx + min k.toNat (x.length - sx)) : crashS [k] (sB x sx fr) = sB (x.take m) m (fr + (x.length - m)) := by
  have hml : m ≤ x.length := by have := Nat.min_le_right k.toNat (x.length - sx); omega
  have hl : (x.take m).length = m := by rw [List.length_take]; omega
  have e : (crL [k] 0 (sB x sx fr).V).1 = [([98], x.take m, m)] := by
    show [(cr1 [k] 0 ([98], x, sx)).1] = _
    unfold cr1
    by_cases h : sx = x.length
    · rw [if_pos h]
      obtain rfl : m = x.length := by rw [hm, h, Nat.sub_self, Nat.min_zero]; omega
      rw [List.take_length, h]
    · rw [if_neg h]
      have : crN [k] 0 (([98], x, sx) : List UInt8 × List UInt8 × Nat) = m := by rw [hm]; rfl
      rw [this]
  unfold crashS
  rw [e]
  show (⟨[([98], x.take m, m)], fr + (tot [([98], x, sx)] - tot [([98], x.take m, m)]), 0, false⟩ : Sta) = _
  rw [show tot [(([98], x, sx) : List UInt8 × List UInt8 × Nat)] = x.length by simp [tot], show tot [(([98], x.take m, m) : List UInt8 × List UInt8 × Nat)] = m by simp [tot]; omega]
  rfl
end Go.Proofs.Ytldngpgkoohbmaa
