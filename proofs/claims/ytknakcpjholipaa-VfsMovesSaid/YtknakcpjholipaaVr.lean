/- The same bytes are told as such; the states that VfsMoves goes through. -/
import Derived.Test.YtknakcpjholipaaVp
namespace Go.Proofs.Ytknakcpjholipaa
open Go.RowKit Go.Maps Go.Sort

theorem BytesAt.below {w w' : World} {A : Option Addr} {m : Nat} {bs : List UInt8} (h : BytesAt w A m bs) (hb : Below w.heap.size w w') : BytesAt w' A m bs := h.up (fun b hlt => hb.block b hlt) hb.size
theorem BytesAt.kept {w w' : World} {X : Nat → Prop} {A : Option Addr} {m : Nat} {bs : List UInt8} (h : BytesAt w A m bs) (hk : Kept X w w') (hX : ∀ b o, A = some ⟨b, o, none⟩ → ¬ X b) : BytesAt w' A m bs := h.keep (fun _ b o e hlt => hk.block b hlt (hX b o e)) hk.size
theorem BytesAt.cut {w : World} {A : Option Addr} {m k : Nat} {bs : List UInt8} (h : BytesAt w A m bs) (hk : k ≤ m) : BytesAt w A k (bs.take k) :=
  ⟨by rw [List.length_take, h.1]; omega, fun hk0 => by
    obtain ⟨b, o, e, hlt, hc⟩ := h.2 (by omega)
    refine ⟨b, o, e, hlt, fun i c hi => hc i c ?_⟩
    have := (List.getElem?_eq_some_iff.1 hi).1
    rw [List.length_take] at this
    rw [List.getElem?_take_of_lt (by omega)] at hi
    exact hi⟩
set_option maxHeartbeats 1000000 in
set_option maxRecDepth 100000 in
theorem sameb_yes {w : World} {A B : Option Addr} {n c d : Nat} {xs : List UInt8} (hx : BytesAt w A n xs) (hy : BytesAt w B n xs) (hn : n ≤ maxLen) :
    Calls Try.prog 19 #[.slice A n c, .slice B n d] w fun e w' => e = .returned (.bool true) ∧ Below w.heap.size w w' := by
  have hl := hx.1
  unfold maxLen at hn
  go_enter Try.func19, Try.ntmps19
  go_wp2_with fail
  go_loopw [5] (fun i wr => ∃ j : Nat, j ≤ n ∧ i = .int .i64 (j : Nat) ∧ Below w.heap.size w wr) (fun i _ => n - (intOf i).toNat)
  case atStart => exact ⟨0, Nat.zero_le _, rfl, Below.refl _ _⟩
  case round =>
    obtain ⟨j, hj, rfl, hb⟩ := hrel
    by_cases hlt : j < n
    · have hlt' : (j : Int) < (n : Int) := by omega
      have hj0 : (0 : Int) ≤ (j : Int) := by omega
      obtain ⟨b1, o1, rfl, hb1, hc1⟩ := hx.2 (by omega)
      obtain ⟨b2, o2, rfl, hb2, hc2⟩ := hy.2 (by omega)
      obtain ⟨z, hz⟩ : ∃ z, xs[j]? = some z := ⟨xs[j]'(by omega), List.getElem?_eq_getElem _⟩
      have y1 : wr.cell? ⟨b1, o1 + j, none⟩ = some (.int .u8 (z.toNat : Nat)) := by rw [hb.cell (p := ⟨b1, o1 + j, none⟩) hb1]; exact hc1 j z hz
      have y2 : wr.cell? ⟨b2, o2 + j, none⟩ = some (.int .u8 (z.toNat : Nat)) := by rw [hb.cell (p := ⟨b2, o2 + j, none⟩) hb2]; exact hc2 j z hz
      clear hc1 hc2 hz
      go_wp2
      go_quiet (fail)
      go_wp2
      go_roundw
      case rel => exact ⟨j + 1, by omega, by go_num, ⟨hb.os, hb.tape, hb.output, hb.size, hb.block⟩⟩
      case measure => simp [intOf]; omega
    · have hlt' : ¬ (j : Int) < (n : Int) := by omega
      go_wp2
      go_ret
      exact ⟨rfl, hb⟩
def sA (x : List UInt8) (sx : Nat) (y : List UInt8) (fr : Nat) : Sta := ⟨[([97], x, sx), ([98], y, 0)], fr, 0, false⟩
def sB (x : List UInt8) (sx : Nat) (fr : Nat) : Sta := ⟨[([98], x, sx)], fr, 0, false⟩
theorem sA_ok {x y : List UInt8} {sx fr : Nat} (h : x.length + y.length ≤ 10000) (hf : fr ≤ 2000000) : Ok (sA x sx y fr) := by
  have e : tot (sA x sx y fr).V = x.length + y.length := by simp [sA, tot]
  refine ⟨by simp [sA], by rw [e]; omega, ?_, by simp [sA], fun t ht => ?_⟩
  · rw [e]; show fr + _ ≤ _; omega
  · have : t = ([97], x, sx) ∨ t = ([98], y, 0) := by simpa [sA] using ht
    rcases this with rfl | rfl <;> (show 1 ≤ 40; decide)
theorem sB_ok {x : List UInt8} {sx fr : Nat} (h : x.length ≤ 10000) (hf : fr ≤ 2000000) : Ok (sB x sx fr) := by
  have e : tot (sB x sx fr).V = x.length := by simp [sB, tot]
  refine ⟨by simp [sB], by rw [e]; omega, ?_, by simp [sB], fun t ht => ?_⟩
  · rw [e]; show fr + _ ≤ _; omega
  · obtain rfl : t = ([98], x, sx) := by simpa [sB] using ht
    show 1 ≤ 40; decide
theorem mv0 : createS [97] ⟨[], 1048576, 0, false⟩ = (0, ⟨[([97], [], 0)], 1048576, 0, false⟩) := by kernel_rfl
theorem mv1 : createS [98] ⟨[([97], [], 0)], 1048576, 0, false⟩ = (0, sA [] 0 [] 1048576) := by kernel_rfl
theorem mv2 {x y z : List UInt8} {sx fr : Nat} (h : z.length ≤ fr) : appendS [97] z (sA x sx y fr) = (0, sA (x ++ z) sx y (fr - z.length)) := by
  show (if fr < z.length then _ else _) = _
  rw [if_neg (by omega)]; rfl
theorem mv3 {x z : List UInt8} {sx fr : Nat} (h : z.length ≤ fr) : appendS [98] z (sA x sx [] fr) = (0, sA x sx z (fr - z.length)) := by
  show (if fr < z.length then _ else _) = _
  rw [if_neg (by omega)]; rfl
theorem mv4 {x y : List UInt8} {sx fr : Nat} : syncS [97] (sA x sx y fr) = (0, sA x x.length y fr) := rfl
theorem mv6 {x y : List UInt8} {sx fr : Nat} : renameS [97] [97] (sA x sx y fr) = (0, sA x sx y fr) := rfl
theorem mv7 {x y : List UInt8} {sx fr : Nat} : renameS [97] [98] (sA x sx y fr) = (0, sB x sx (fr + y.length)) := rfl
theorem mv8 {x : List UInt8} {sx fr : Nat} : renameS [97] [99] (sB x sx fr) = (4, sB x sx fr) := rfl
theorem mv9 {x : List UInt8} {sx fr : Nat} : readS [98] (sB x sx fr) = (0, x) := rfl
theorem mv10 {x : List UInt8} {sx fr m : Nat} (k : Int) (hs : sx ≤ x.length) (hm : m = sx + min k.toNat (x.length - sx)) : crashS [k] (sB x sx fr) = sB (x.take m) m (fr + (x.length - m)) := by
  have hml : m ≤ x.length := by have := Nat.min_le_right k.toNat (x.length - sx); omega
  have hl : (x.take m).length = m := by rw [List.length_take]; omega
  have e : (crL [k] 0 (sB x sx fr).V).1 = [([98], x.take m, m)] := by
    show [(cr1 [k] 0 ([98], x, sx)).1] = _
    unfold cr1
    by_cases h : sx = x.length
    · rw [if_pos h]
      obtain rfl : m = x.length := by rw [hm, h, Nat.sub_self, Nat.min_zero]; omega
      rw [List.take_length, h]
    · rw [if_neg h]
      have : crN [k] 0 (([98], x, sx) : List UInt8 × List UInt8 × Nat) = m := by rw [hm]; rfl
      rw [this]
  unfold crashS
  rw [e]
  show (⟨[([98], x.take m, m)], fr + (tot [([98], x, sx)] - tot [([98], x.take m, m)]), 0, false⟩ : Sta) = _
  rw [show tot [(([98], x, sx) : List UInt8 × List UInt8 × Nat)] = x.length by simp [tot], show tot [(([98], x.take m, m) : List UInt8 × List UInt8 × Nat)] = m by simp [tot]; omega]
  rfl
end Go.Proofs.Ytknakcpjholipaa
