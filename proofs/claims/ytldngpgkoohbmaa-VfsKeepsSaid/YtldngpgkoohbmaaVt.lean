/- The states that VfsKeeps goes through. -/
import Derived.Test.YtldngpgkoohbmaaVr
namespace Go.Proofs.Ytldngpgkoohbmaa
open Go.RowKit Go.Maps Go.Sort

def sK (b : List UInt8) (sf fr fu : Nat) (dn : Bool) : Sta := ⟨[([102], b, sf)], fr, fu, dn⟩
theorem sK_ok {b : List UInt8} {sf fr fu : Nat} {dn : Bool} (h : b.length ≤ 50000) (hf : fr ≤ 200000) (hu : fu ≤ 100) : Ok (sK b sf fr fu dn) := by
  have e : tot (sK b sf fr fu dn).V = b.length := by simp [sK, tot]
  refine ⟨by simp [sK], by rw [e]; omega, ?_, by show fu ≤ _; omega, fun t ht => ?_⟩
  · rw [e]; show fr + _ ≤ _; omega
  · obtain rfl : t = ([102], b, sf) := by simpa [sK] using ht
    show 1 ≤ 40; decide
theorem kp0 : createS [102] ⟨[], 100000, 0, false⟩ = (0, sK [] 0 100000 0 false) := by kernel_rfl
theorem kp1 {b z : List UInt8} {sf fr fu : Nat} {dn : Bool} (h : z.length ≤ fr) :
    appendS [102] z (sK b sf fr fu dn) = (0, sK (b ++ z) sf (fr - z.length) (fu - 1) false) ∨ appendS [102] z (sK b sf fr fu dn) = (70, sK b sf fr fu true) := by
  cases dn with
  | true => exact .inr rfl
  | false =>
    have e : appendS [102] z (sK b sf fr fu false) = (if fr < z.length then (71, sK b sf fr fu false) else stepS (sK b sf fr fu false) fun s => { s with V := vset ([102], b ++ z, sf) s.V, free := s.free - z.length }) := rfl
    rw [e, if_neg (by omega)]
    unfold stepS
    by_cases h1 : (sK b sf fr fu false).fuse = 1
    · rw [if_pos h1]; exact .inr rfl
    · rw [if_neg h1]; exact .inl rfl
theorem kp2 {b : List UInt8} {sf fr fu : Nat} {dn : Bool} :
    syncS [102] (sK b sf fr fu dn) = (0, sK b b.length fr (fu - 1) false) ∨ syncS [102] (sK b sf fr fu dn) = (70, sK b sf fr fu true) := by
  cases dn with
  | true => exact .inr rfl
  | false =>
    have e : syncS [102] (sK b sf fr fu false) = (stepS (sK b sf fr fu false) fun s => { s with V := vset ([102], b, b.length) s.V }) := rfl
    rw [e]
    unfold stepS
    by_cases h1 : (sK b sf fr fu false).fuse = 1
    · rw [if_pos h1]; exact .inr rfl
    · rw [if_neg h1]; exact .inl rfl
theorem kp3 {x : List UInt8} {sx fr fu m : Nat} {dn : Bool} (k : Int) (hs : sx ≤ x.length) (hm : m = sx + min k.toNat (x.length - sx)) : crashS [k] (sK x sx fr fu dn) = sK (x.take m) m (fr + (x.length - m)) 0 false := by
  have hml : m ≤ x.length := by have := Nat.min_le_right k.toNat (x.length - sx); omega
  have hl : (x.take m).length = m := by rw [List.length_take]; omega
  have e : (crL [k] 0 (sK x sx fr fu dn).V).1 = [([102], x.take m, m)] := by
    show [(cr1 [k] 0 ([102], x, sx)).1] = _
    unfold cr1
    by_cases h : sx = x.length
    · rw [if_pos h]
      obtain rfl : m = x.length := by rw [hm, h, Nat.sub_self, Nat.min_zero]; omega
      rw [List.take_length, h]
    · rw [if_neg h]
      have : crN [k] 0 (([102], x, sx) : List UInt8 × List UInt8 × Nat) = m := by rw [hm]; rfl
      rw [this]
  unfold crashS
  rw [e]
  show (⟨[([102], x.take m, m)], fr + (tot [([102], x, sx)] - tot [([102], x.take m, m)]), 0, false⟩ : Sta) = _
  rw [show tot [(([102], x, sx) : List UInt8 × List UInt8 × Nat)] = x.length by simp [tot], show tot [(([102], x.take m, m) : List UInt8 × List UInt8 × Nat)] = m by simp [tot]; omega]
  rfl
theorem kp4 {x : List UInt8} {sx fr fu : Nat} : readS [102] (sK x sx fr fu false) = (0, x) := rfl
end Go.Proofs.Ytldngpgkoohbmaa
