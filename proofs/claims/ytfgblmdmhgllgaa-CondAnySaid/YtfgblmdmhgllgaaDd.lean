/- cond.Any and what it calls; the reference's Any. -/
import Derived.Test.YtfgblmdmhgllgaaDa
namespace Go.Proofs.Ytfgblmdmhgllgaa
open Go.RowKit

def holdB (ps : Props) (t : CT) : Bool := rightT 20 t && holdsT ps t
section
variable {nm : ByteArray} {PA : Option Addr} {pm pc : Nat} {ps : Props}
set_option maxHeartbeats 1000000 in
set_option maxRecDepth 100000 in
theorem cAny1_any (D : Nat) (t : CT) (k : Int) (n v : ByteArray) (A : Option Addr) (m c p : Nat) (w : World) (ht : CondAt w (· < w.heap.size) D t [.int .i64 k, .string n, .string v, .slice A m c]) (hB : Blk w p 79 #[.string nm, .slice PA pm pc]) (hp : PropsAt w (· < w.heap.size) PA pm ps) (hpm : pm ≤ maxLen) :
    Calls Try.prog 93 #[.agg #[.int .i64 k, .string n, .string v, .slice A m c], .pointer (some ⟨p, 0, none⟩)] w fun e w' => e = .returned (.bool (holdB ps t)) ∧ Below w.heap.size w w' := by
  have hbw := (Below.refl _ w).alloc (Nat.le_refl _) (.cells #[.int .i64 k, .string n, .string v, .slice A m c] 76)
  have hlt := hB.lt
  obtain ⟨q0, q1, _⟩ := blk2 hB
  have HC := Lib.hid (cHolds_any nm PA pm pc ps D t k n v A m c _ (ht.below hbw) (hp.below hbw) hpm)
  go_enter Try.func93, Try.ntmps93
  go_wp2_with fail
  refine HC.out.mono ?_
  rintro e w1 ⟨rfl, hb1⟩
  go_wp2
  go_ret
  exact ⟨rfl, hbw.trans (hb1.mono (by simp))⟩
/-- Where the first one is that is so; -1: nowhere. -/
def AtFirst (ps : Props) (ts : List CT) (w : World) (e : Ending) (w' : World) : Prop := (∃ r : Int, e = .returned (.int .i64 r) ∧ decide (0 ≤ r) = ts.any (holdB ps)) ∧ Below w.heap.size w w'
set_option maxHeartbeats 1000000 in
set_option maxRecDepth 100000 in
theorem indexFunc_any (D : Nat) (ts : List CT) (A : Option Addr) (m c p : Nat) (w : World) (hk : KidsAt w (· < w.heap.size) D A m ts) (hm : m ≤ maxLen) (hB : Blk w p 79 #[.string nm, .slice PA pm pc]) (hp : PropsAt w (· < w.heap.size) PA pm ps) (hpm : pm ≤ maxLen) :
    Calls Try.prog 121 #[.slice A m c, .func (.func 93) #[] #[.pointer (some ⟨p, 0, none⟩)]] w (AtFirst ps ts w) := by
  unfold maxLen at hm
  go_enter Try.func121, Try.ntmps121
  go_wp2_with fail
  go_loopw [8] (fun i wr => ∃ j : Nat, j ≤ m ∧ i = .int .i64 j ∧ (ts.take j).any (holdB ps) = false ∧ Below w.heap.size w wr) (fun i _ => m - (intOf i).toNat)
  case atStart => exact ⟨0, Nat.zero_le _, rfl, rfl, Below.refl _ _⟩
  case round =>
    obtain ⟨j, hj, rfl, hall, hb⟩ := hrel
    have HA := Lib.hid hall
    clear hall
    by_cases hlt : j < m
    · have hlt' : (j : Int) < (m : Int) := by omega
      have hj0 : (0 : Int) ≤ (j : Int) := by omega
      obtain ⟨b, o, t, k', n', v', B, q, c', rfl, hX, htj, e0, e1, e2, e3, ht⟩ := hk.kid hlt
      replace e0 := (hb.cell (p := ⟨b, o + j * 4, none⟩) hX).trans e0
      replace e1 := (hb.cell (p := ⟨b, o + j * 4 + 1, none⟩) hX).trans e1
      replace e2 := (hb.cell (p := ⟨b, o + j * 4 + 2, none⟩) hX).trans e2
      replace e3 := (hb.cell (p := ⟨b, o + j * 4 + 3, none⟩) hX).trans e3
      have HC := Lib.hid (cAny1_any D t k' n' v' B q c' p wr (ht.below hb) (hB.below hb hB.lt) (hp.below hb) hpm)
      have HJ := Lib.hid htj
      clear ht htj hk hp hB
      cases hx : holdB ps t
      · rw [hx] at HC
        have HF := Lib.hid (show (ts.take (j + 1)).any (holdB ps) = false by rw [any_take HJ.out, HA.out, hx]; rfl)
        clear hx
        go_wp2_with ((with_reducible refine HC.out.mono ?_); rintro e w1 ⟨rfl, hb1⟩)
        go_roundw
        case rel => exact ⟨j + 1, by omega, by go_num, HF.out, hb.trans (hb1.mono hb.size)⟩
        case measure => simp [intOf]; omega
      · rw [hx] at HC
        have HF := Lib.hid (any_yes HJ.out hx)
        clear hx
        go_wp2_with ((with_reducible refine HC.out.mono ?_); rintro e w1 ⟨rfl, hb1⟩)
        go_ret
        exact ⟨⟨_, rfl, by rw [HF.out]; simp⟩, hb.trans (hb1.mono hb.size)⟩
    · obtain rfl : j = m := by omega
      have HF := Lib.hid (show ts.any (holdB ps) = false by have := HA.out; rwa [List.take_of_length_le (by rw [hk.1]; omega)] at this)
      go_wp2
      go_ret
      exact ⟨⟨_, rfl, by rw [HF.out]; rfl⟩, hb⟩
set_option maxRecDepth 100000 in
theorem contains_any (D : Nat) (ts : List CT) (A : Option Addr) (m c p : Nat) (w : World) (hk : KidsAt w (· < w.heap.size) D A m ts) (hm : m ≤ maxLen) (hB : Blk w p 79 #[.string nm, .slice PA pm pc]) (hp : PropsAt w (· < w.heap.size) PA pm ps) (hpm : pm ≤ maxLen) :
    Calls Try.prog 92 #[.slice A m c, .func (.func 93) #[] #[.pointer (some ⟨p, 0, none⟩)]] w fun e w' => e = .returned (.bool (ts.any (holdB ps))) ∧ Below w.heap.size w w' := by
  have HC := Lib.hid (indexFunc_any D ts A m c p w hk hm hB hp hpm)
  go_enter Try.func92, Try.ntmps92
  go_wp2_with fail
  refine HC.out.mono ?_
  rintro e w1 ⟨⟨r, rfl, hr⟩, hb1⟩
  have HR := Lib.hid hr
  clear hr
  go_wp2
  go_ret
  exact ⟨ret_bool HR.out, hb1⟩
set_option maxRecDepth 100000 in
theorem cAny_any (D : Nat) (ts : List CT) (A : Option Addr) (m c : Nat) (w : World) (hk : KidsAt w (· < w.heap.size) D A m ts) (hm : m ≤ maxLen) (hp : PropsAt w (· < w.heap.size) PA pm ps) (hpm : pm ≤ maxLen) :
    Calls Try.prog 42 #[.slice A m c, .agg #[.string nm, .slice PA pm pc]] w fun e w' => e = .returned (.bool (ts.any (holdB ps))) ∧ Below w.heap.size w w' := by
  have hmf : ∀ (fn : Fn) (first cap : Array Value) (w : World), (Instr.makeFunc fn first cap).run Try.prog w = .ok (.func fn first cap) w := fun _ _ _ _ => rfl
  have hbw := (Below.refl _ w).alloc (Nat.le_refl _) (.cells #[.string nm, .slice PA pm pc] 79)
  have HC := Lib.hid (contains_any (c := c) D ts A m w.heap.size _ (hk.below hbw) hm (Blk.new w 79 #[.string nm, .slice PA pm pc]) (hp.below hbw) hpm)
  go_enter Try.func42, Try.ntmps42
  go_wp2_with fail
  refine HC.out.mono ?_
  rintro e w1 ⟨rfl, hb1⟩
  go_wp2
  go_ret
  exact ⟨rfl, hbw.trans (hb1.mono (by simp))⟩
end
end Go.Proofs.Ytfgblmdmhgllgaa
