/- nfa's Find, Steps. Tables: the reference's same, both, either. Tables: the reference's either. -/
import Derived.Test.YtgcbcdbfeaepkaaOr
import Derived.StillTailTactics
import Derived.BigRegion
namespace Go.Proofs.Ytgcbcdbfeaepkaa
open Go.RowKit Go.Maps

/-- What Find answers. -/
def FindR (S : List St) (s : List UInt8) (start : Nat) (a b : Int) (ok : Bool) : Prop :=
  (ok = false ∧ a = 0 ∧ b = 0 ∧ ∀ f k, k ≤ s.length → ¬ Rch S s (start, f) (0, k)) ∨
  (ok = true ∧ ∃ f t : Nat, a = (f : Nat) ∧ b = (t : Nat) ∧ f ≤ t ∧ t ≤ s.length ∧ Rch S s (start, f) (0, t) ∧ (∀ k, t < k → k ≤ s.length → ¬ Rch S s (start, f) (0, k)) ∧ ∀ g, g < f → ∀ k, k ≤ s.length → ¬ Rch S s (start, g) (0, k))
def FindPost (w : World) (X : Nat → Prop) (pp start : Nat) (S : List St) (s : List UInt8) (e : Ending) (w' : World) : Prop :=
  ∃ (a b : Int) (ok : Bool), e = .returned (.tuple #[.int .i64 a, .int .i64 b, .bool ok]) ∧ FindR S s start a b ok ∧ MLeft w X pp (start : Nat) S s.length w'
theorem HInv.same {M : List St} {s : List UInt8} {P Q : Nat → Prop} {start at_ : Nat} {W : WS} (h : HInv M s start P at_ W) (hq : ∀ f, P f ↔ Q f) : HInv M s start Q at_ W := (funext fun f => propext (hq f) : P = Q) ▸ h
set_option maxHeartbeats 4000000 in
set_option maxRecDepth 100000 in
theorem find_any {w : World} {X : Nat → Prop} {pp start : Nat} {steps0 : Int} {S : List St} (hm : Mach w X pp (start : Nat) steps0 S) (hok : MOk S) (hst : start < S.length) (s : ByteArray) (hs : s.size ≤ 100000000) (he : edgesM S ≤ 100000) (hS : S.length ≤ 100000) :
    Calls Try.prog 22 #[.pointer (some ⟨pp, 0, none⟩), .string s] w (FindPost w X pp start S s.data.toList) := by
  have hsl : s.data.toList.length = s.size := rfl
  have hSl : 0 < S.length := hok.1
  have hXl : ∀ j, X j → j < w.heap.size := fun j hj => hm.old hj
  have hXpp := hm.at_
  obtain ⟨sb, cS, p0, p1, p2, pf2, -, -, -, -, -, -⟩ := hm.read hSl
  have hm1 := hm.setSteps (steps' := (0 : Int))
  have hk1 : Kept (fun j => j = pp) w (w.setCell ⟨pp, 2, none⟩ (.int .i64 0)) := (Kept.refl (fun j => j = pp) w).set_ (p := ⟨pp, 2, none⟩) (.inl rfl) _
  have HM1 := Lib.hid hm1
  have HK1 := Lib.hid hk1
  have HOK := Lib.hid hok
  have HSL := Lib.hid hsl
  clear hm hm1 hk1 hok hsl p0
  have HW := Lib.hid (walk_any HM1.out hS hSl)
  go_enter Try.func22, Try.ntmps22
  go_wp2_with fail
  refine HW.out.mono ?_
  rintro e w2 ⟨wp, Z, rfl, hwk, hz, hb⟩
  have hz2 : ∀ j, Z j → w.heap.size ≤ j := fun j hj => by have := hz j hj; simpa [World.setCell] using this
  have hm2 := HM1.out.below hb
  have hk2 : Kept (fun j => j = pp) w w2 := HK1.out.trans (kept_below hb) (fun j hj => .inl hj)
  have hdis : ∀ j, X j → ¬ Z j := fun j hj hzj => by have := hXl j hj; have := hz2 j hzj; omega
  have q1 : w2.cell? ⟨pp, 1, none⟩ = some (.int .i64 (start : Nat)) := by obtain ⟨_, _, _, h, _⟩ := hm2.read hSl; exact h
  have HI0 := Lib.hid (HInv.begin_ (M := S) (s := s.data.toList) (start := start) (at_ := 0) S.length rfl)
  have HRE := Lib.hid (show Calls Try.prog 56 #[.pointer (some ⟨wp, 0, none⟩), .int .i64 (start : Nat), .int .i64 0, .int .i64 0] w2 _ from reach_all hm2 HOK.out (WkS.of hwk) hdis HI0.out.len start 0 0 hst (by omega) (by omega) he hS (Nat.zero_le _) HI0.out.clo)
  have HZ2 := Lib.hid hz2
  have HK2 := Lib.hid hk2
  clear hwk hz hz2 hb hm2 hk2 HM1 HK1 HW p1 p2 pf2
  go_wp2_with fail
  refine HRE.out.mono ?_
  rintro e w3 ⟨rfl, Z3, W3, hwk3, hro, hz3, hk3, hm3⟩
  have HWK3 := Lib.hid hwk3
  have HM3 := Lib.hid hm3
  have HI3 := Lib.hid ((HI0.out.starts HOK.out hst (fun f h => h.elim) rfl hro).same (Q := fun g => g ≤ 0) (fun f => ⟨fun h => h.elim False.elim fun e => by omega, fun h => .inr (by omega)⟩))
  have HN3 := Lib.hid (show W3.found = false → W3.frm = 0 ∧ W3.to = 0 from fun hf => by
    rcases hro.over with ⟨_, _, h, _⟩ | ⟨_, _, h1, h2⟩
    · rw [hf] at h; cases h
    · exact ⟨h1, h2⟩)
  have HZ3 := Lib.hid (show ∀ j, Z3 j → w.heap.size ≤ j from fun j hj => by
    rcases hz3 j hj with h | h
    · exact HZ2.out j h
    · exact Nat.le_trans HK2.out.size h)
  have HK3 := Lib.hid (HK2.out.trans hk3 (fun j hj => .inr (HZ2.out j hj)))
  clear hwk3 hro hz3 hk3 hm3 HRE HI0 HZ2 HK2 hdis q1
  go_wp2_with fail
  go_loopw [8] (fun vi wr => ∃ (i : Nat) (W : WS) (Z : Nat → Prop) (st a : Nat), a ≤ i ∧ i ≤ s.size ∧ vi = .int .i64 (i : Nat) ∧ WkS wr Z wp pp W ∧ Mach wr X pp (start : Nat) (st : Nat) S ∧ HInv S s.data.toList start (fun g => g ≤ a) i W ∧ (W.found = false → a = i) ∧ (W.found = false → W.frm = 0 ∧ W.to = 0) ∧ st ≤ i * S.length ∧ (∀ j, Z j → w.heap.size ≤ j) ∧ Kept (fun j => j = pp) w wr) (fun vi _ => s.size - (intOf vi).toNat)
  case atStart => exact ⟨0, W3, Z3, 0, 0, Nat.le_refl _, Nat.zero_le _, rfl, HWK3.out, HM3.out, HI3.out, fun _ => rfl, HN3.out, Nat.zero_le _, HZ3.out, HK3.out⟩
  case round =>
    clear HWK3 HM3 HI3 HZ3 HK3 HN3
    obtain ⟨i, W, Z, st, a, hai, his, rfl, hwk, hmr, hI, haf, hnf, hstp, hz, hkp⟩ := hrel
    obtain ⟨A, c, t2, t4, t5, t6, t0, hZw, hcA⟩ := hwk.read
    have HI := Lib.hid hI
    have HM := Lib.hid hmr
    have HWK := Lib.hid hwk
    have HZ := Lib.hid hz
    have HKP := Lib.hid hkp
    have HAF := Lib.hid haf
    have HNF := Lib.hid hnf
    clear hwk hmr hI hz hkp haf hnf
    by_cases hgo : i < s.size ∧ 0 < W.held.length
    · obtain ⟨hlt, hh⟩ := hgo
      have hlt' : (i : Int) < (s.size : Int) := by omega
      have hh' : (0 : Int) < (W.held.length : Int) := by omega
      have hi0 : (0 : Int) ≤ (i : Int) := by omega
      have hwr : IntKind.i64.wrap ((i : Int) + 1) = (i : Int) + 1 := by rw [IntKind.wrap_i64]; omega
      have hbt := byteAt_eq s i hlt
      have hsum : st ≤ 100000000 * 100000 := Nat.le_trans hstp (Nat.mul_le_mul (by omega) hS)
      have HME := Lib.hid (meet_any HM.out HOK.out HWK.out (fun j hj hzj => by have := hXl j hj; have := HZ.out j hzj; omega) HI.out (fun g hg => Nat.le_trans hg hai) (byteAt s i) (by
        show s.data.toList[i]? = some (byteAt s i)
        rw [← hbt]; exact List.getElem?_eq_getElem (by show i < s.size; exact hlt)) (by omega) he hS (by omega))
      have HSTP := Lib.hid hstp
      clear hstp hsum
      go_wp2_with fail
      refine HME.out.mono ?_
      rintro e w4 ⟨rfl, Z4, W4, st4, hwk4, hm4, hi4, hs4, hz4, hk4, hun⟩
      rw [Int.toNat_natCast] at hi4
      obtain ⟨A4, c4, -, u4, -, -, -, -, -⟩ := hwk4.read
      have HWK4 := Lib.hid hwk4
      have HM4 := Lib.hid hm4
      have HI4 := Lib.hid hi4
      have HS4 := Lib.hid (show st4 ≤ (i + 1) * S.length by rw [Nat.succ_mul]; have := HSTP.out; omega)
      have HZ4 := Lib.hid (show ∀ j, Z4 j → w.heap.size ≤ j from fun j hj => by
        rcases hz4 j hj with h | h
        · exact HZ.out j h
        · exact Nat.le_trans HKP.out.size h)
      have HK4 := Lib.hid (HKP.out.trans hk4 (fun j hj => by
        rcases hj with hj | hj
        · exact .inr (HZ.out j hj)
        · exact .inl hj))
      have HUN := Lib.hid hun
      clear hwk4 hm4 hi4 hs4 hz4 hk4 HME hun
      cases hfo : W4.found
      · rw [hfo] at u4
        obtain ⟨hvf, hfr, hto⟩ := HUN.out hfo
        have hae := HAF.out hvf
        have hfz := HNF.out hvf
        have q1 : w4.cell? ⟨pp, 1, none⟩ = some (.int .i64 (start : Nat)) := by obtain ⟨_, _, _, h, _⟩ := HM4.out.read hSl; exact h
        have HRE := Lib.hid (show Calls Try.prog 56 #[.pointer (some ⟨wp, 0, none⟩), .int .i64 (start : Nat), .int .i64 ((i : Int) + 1), .int .i64 ((i : Int) + 1)] w4 _ from reach_all HM4.out HOK.out HWK4.out (fun j hj hzj => by have := hXl j hj; have := HZ4.out j hzj; omega) HI4.out.len start (i + 1) (i + 1) hst (by omega) (by omega) he hS (Nat.le_trans HI4.out.few hS) HI4.out.clo)
        have HFZ := Lib.hid (show W4.frm = 0 ∧ W4.to = 0 from ⟨hfr.trans hfz.1, hto.trans hfz.2⟩)
        have HAE := Lib.hid hae
        have HFO := Lib.hid hfo
        clear hfr hto hfz hae hfo hvf
        go_wp2_with fail
        refine HRE.out.mono ?_
        rintro e w5 ⟨rfl, Z5, W5, hwk5, hro, hz5, hk5, hm5⟩
        have HWK5 := Lib.hid hwk5
        have HM5 := Lib.hid hm5
        have HI5 := Lib.hid ((HI4.out.starts HOK.out hst (fun f hf => by have := HAE.out; omega) HFO.out hro).same (Q := fun g => g ≤ i + 1) (fun f => ⟨fun h => by have := HAE.out; omega, fun h => by have := HAE.out; omega⟩))
        have HN5 := Lib.hid (show W5.found = false → W5.frm = 0 ∧ W5.to = 0 from fun hf => by
          rcases hro.over with ⟨_, _, h, _⟩ | ⟨_, _, h1, h2⟩
          · rw [hf] at h; cases h
          · exact ⟨h1.trans HFZ.out.1, h2.trans HFZ.out.2⟩)
        have HZ5 := Lib.hid (show ∀ j, Z5 j → w.heap.size ≤ j from fun j hj => by
          rcases hz5 j hj with h | h
          · exact HZ4.out j h
          · exact Nat.le_trans HK4.out.size h)
        have HK5 := Lib.hid (HK4.out.trans hk5 (fun j hj => .inr (HZ4.out j hj)))
        clear hwk5 hro hz5 hk5 hm5 HRE q1
        go_wp2_with fail
        go_roundw
        case rel => exact ⟨i + 1, W5, Z5, st4, i + 1, Nat.le_refl _, hlt, by go_num, HWK5.out, HM5.out, HI5.out, fun _ => rfl, HN5.out, HS4.out, HZ5.out, HK5.out⟩
        case measure => simp [intOf]; omega
      · rw [hfo] at u4
        have HFO := Lib.hid hfo
        clear hfo
        go_wp2_with fail
        go_roundw
        case rel => exact ⟨i + 1, W4, Z4, st4, a, by omega, hlt, by go_num, HWK4.out, HM4.out, HI4.out, (fun h => by rw [HFO.out] at h; cases h), (fun h => by rw [HFO.out] at h; cases h), HS4.out, HZ4.out, HK4.out⟩
        case measure => simp [intOf]; omega
    · have hend : i = s.size ∨ W.held = [] := by
        by_cases hlt : i < s.size
        · right; apply List.eq_nil_of_length_eq_zero; omega
        · left; omega
      obtain ⟨l1, l2⟩ := find_end (n := s.size) HI.out HAF.out hai his hend
      have HLE := Lib.hid (show MLeft w X pp (start : Nat) S s.data.toList.length wr from ⟨st, by rw [HSL.out]; exact Nat.le_trans hstp (Nat.mul_le_mul his (Nat.le_refl _)), HM.out, HKP.out⟩)
      have HFIN := Lib.hid (show ∀ n, FindPost w X pp start S s.data.toList (.returned (.tuple #[.int .i64 (W.frm : Nat), .int .i64 (W.to : Nat), .bool W.found])) (wr.drewN n) from fun n => by
        refine ⟨_, _, _, rfl, ?_, st, HLE.out.elim (fun _ _ => by rw [HSL.out]; exact Nat.le_trans hstp (Nat.mul_le_mul his (Nat.le_refl _))), HM.out.keep fun _ _ _ => rfl, HKP.out.drewN n⟩
        cases hfo : W.found with
        | false => obtain ⟨z1, z2⟩ := HNF.out hfo; exact .inl ⟨rfl, by rw [z1]; rfl, by rw [z2]; rfl, l1 hfo⟩
        | true => obtain ⟨z1, z2, z3, z4, z5⟩ := l2 hfo; exact .inr ⟨rfl, W.frm, W.to, rfl, rfl, z1, z2, z3, z4, z5⟩)
      clear l1 l2 hstp HI HM HWK HZ HKP hend HAF HNF HLE
      by_cases hlt : i < s.size
      · have hh : ¬ (0 : Int) < (W.held.length : Int) := by omega
        have hlt' : (i : Int) < (s.size : Int) := by omega
        go_wp2_with fail
        go_quiet (fail)
        try go_wp2
        go_ret3
        exact HFIN.out _
      · obtain rfl : s.size = i := by omega
        have hlt' : ¬ (s.size : Int) < (s.size : Int) := by omega
        go_wp2_with fail
        go_quiet (fail)
        try go_wp2
        go_ret3
        exact HFIN.out _
end Go.Proofs.Ytgcbcdbfeaepkaa
namespace Go.Proofs.Ytgcbcdbfeaepkaa
open Go.RowKit Go.Maps

set_option maxHeartbeats 1000000 in
set_option maxRecDepth 100000 in
theorem samet_any (n : Nat) (w : World) (h0 : 0 < n) (hn : n ≤ 100000) : Calls Try.prog 60 #[.int .i64 (n : Int)] w (TabPost w n fun i j => decide (i = j)) := by
  have HN := Lib.hid (none_any n w h0 hn)
  go_enter Try.func60, Try.ntmps60
  go_wp2_with fail
  refine HN.out.mono ?_
  rintro e w1 ⟨g, rb, c, rfl, hc, ht, hb⟩
  have HT := Lib.hid (ht.congr (T' := fun i j => decide (i = j ∧ i < 0)) (fun i j _ _ => by simp))
  have HC := Lib.hid hc
  clear ht hc
  go_wp2_with fail
  go_loopw [4] (fun i wr => ∃ k : Nat, k ≤ n ∧ i = .int .i64 (k : Nat) ∧ Tab wr w.heap.size g rb n (fun i j => decide (i = j ∧ i < k)) ∧ Below w.heap.size w wr) (fun i _ => n - (intOf i).toNat)
  case atStart => exact ⟨0, Nat.zero_le _, rfl, HT.out, hb⟩
  case round =>
    clear hb
    obtain ⟨k, hk, rfl, ht, hb⟩ := hrel
    by_cases hlt : k < n
    · have hlt' : (k : Int) < (n : Int) := by omega
      have hk0 : (0 : Int) ≤ (k : Int) := by omega
      have r0 := ht.row k hlt
      obtain ⟨c0, f0⟩ := ht.cell k k hlt hlt
      have HT2 := Lib.hid (ht.set_ (T' := fun i j => decide (i = j ∧ i < k + 1)) hlt hlt (v := true) (fun a b _ _ => by
        by_cases e : a = k ∧ b = k
        · rw [if_pos e]; obtain ⟨rfl, rfl⟩ := e; simp
        · rw [if_neg e, decide_eq_decide]; omega))
      have hB := (ht.blk k hlt).1
      clear ht
      go_wp2
      go_roundw
      case rel => exact ⟨k + 1, by omega, by go_num, HT2.out, hb.trans ⟨rfl, rfl, rfl, by simp [World.setCell], fun j hj => Below.heap_setCell wr _ _ j (by show j ≠ rb k; omega)⟩⟩
      case measure => simp [intOf]; omega
    · obtain rfl : n = k := by omega
      have hlt' : ¬ (n : Int) < (n : Int) := by omega
      have HT2 := Lib.hid (ht.congr (T' := fun i j => decide (i = j)) (fun i j hi _ => by rw [decide_eq_decide]; omega))
      clear ht
      go_wp2
      go_ret
      exact ⟨g, rb, c, rfl, HC.out, HT2.out, hb⟩
end Go.Proofs.Ytgcbcdbfeaepkaa
namespace Go.Proofs.Ytgcbcdbfeaepkaa
open Go.RowKit Go.Maps

/-- A table turned row by row: up to row k, column j the new one. -/
def partT (k j : Nat) (G F : Nat → Nat → Bool) (a b : Nat) : Bool := if a < k ∨ (a = k ∧ b < j) then G a b else F a b
theorem partT_step {k j : Nat} {G F : Nat → Nat → Bool} {v : Bool} (hv : G k j = v) (a b : Nat) : partT k (j + 1) G F a b = if a = k ∧ b = j then v else partT k j G F a b := by
  unfold partT
  by_cases e : a = k ∧ b = j
  · obtain ⟨rfl, rfl⟩ := e
    rw [if_pos (by omega), if_pos ⟨rfl, rfl⟩, hv]
  · rw [if_neg e]
    by_cases e2 : a < k ∨ (a = k ∧ b < j)
    · rw [if_pos e2, if_pos (by omega)]
    · rw [if_neg e2, if_neg (by omega)]
theorem partT_row {k n : Nat} {G F : Nat → Nat → Bool} (a b : Nat) (hb : b < n) : partT (k + 1) 0 G F a b = partT k n G F a b := by
  unfold partT
  by_cases e : a < k + 1
  · rw [if_pos (by omega), if_pos (by omega)]
  · rw [if_neg (by omega), if_neg (by omega)]
theorem partT_full {n : Nat} {G F : Nat → Nat → Bool} (a b : Nat) (ha : a < n) : partT n 0 G F a b = G a b := by
  unfold partT; rw [if_pos (.inl ha)]
theorem partT_start {G F : Nat → Nat → Bool} (a b : Nat) : partT 0 0 G F a b = F a b := by
  unfold partT; rw [if_neg (by omega)]
set_option maxHeartbeats 1000000 in
set_option maxRecDepth 100000 in
theorem either_any {n : Nat} {w : World} {Ba Bb ga gb ca cb : Nat} {ra rb : Nat → Nat} {Ta Tb : Nat → Nat → Bool} (ha : Tab w Ba ga ra n Ta) (hb : Tab w Bb gb rb n Tb) (h0 : 0 < n) (hn : n ≤ 100000) :
    Calls Try.prog 62 #[.slice (some ⟨ga, 0, none⟩) n ca, .slice (some ⟨gb, 0, none⟩) n cb] w (TabPost w n fun i j => Ta i j || Tb i j) := by
  have HN := Lib.hid (none_any n w h0 hn)
  have HA := Lib.hid ha
  have HBB := Lib.hid hb
  clear ha hb
  go_enter Try.func62, Try.ntmps62
  go_wp2_with fail
  refine HN.out.mono ?_
  rintro e w1 ⟨g, ro, c, rfl, hc, ht, hbw⟩
  have HT := Lib.hid (ht.congr (T' := partT 0 0 (fun i j => Ta i j || Tb i j) (fun _ _ => false)) (fun i j _ _ => partT_start i j))
  have HC := Lib.hid hc
  clear ht hc
  go_wp2_with fail
  go_loopw [6, 7] (fun i _ wr => ∃ k : Nat, k ≤ n ∧ i = .int .i64 (k : Nat) ∧ Tab wr w.heap.size g ro n (partT k 0 (fun i j => Ta i j || Tb i j) (fun _ _ => false)) ∧ Below w.heap.size w wr) (fun i _ _ => n - (intOf i).toNat)
  case atStart => exact ⟨0, Nat.zero_le _, rfl, HT.out, hbw⟩
  case round =>
    clear hbw HT
    obtain ⟨k, hk, rfl, ht, hbw⟩ := hrel
    by_cases hlt : k < n
    · have hlt' : (k : Int) < (n : Int) := by omega
      have hk0 : (0 : Int) ≤ (k : Int) := by omega
      go_wp2_with fail
      go_loopw [7] (fun i wr => ∃ j : Nat, j ≤ n ∧ i = .int .i64 (j : Nat) ∧ Tab wr w.heap.size g ro n (partT k j (fun i j => Ta i j || Tb i j) (fun _ _ => false)) ∧ Below w.heap.size w wr) (fun i _ => n - (intOf i).toNat)
      case atStart => exact ⟨0, Nat.zero_le _, rfl, ht, hbw⟩
      case round =>
        clear ht hbw
        obtain ⟨j, hj, rfl, ht, hbw⟩ := hrel
        by_cases hlt2 : j < n
        · have hlt2' : (j : Int) < (n : Int) := by omega
          have hj0 : (0 : Int) ≤ (j : Int) := by omega
          have a0 := (HA.out.below hbw).row k hlt
          have a1 := ((HA.out.below hbw).cell k j hlt hlt2).1
          have b0 := (HBB.out.below hbw).row k hlt
          have b1 := ((HBB.out.below hbw).cell k j hlt hlt2).1
          have r0 := ht.row k hlt
          obtain ⟨c0, f0⟩ := ht.cell k j hlt hlt2
          have hB := (ht.blk k hlt).1
          cases hv : Ta k j
          · rw [hv] at a1
            have HT2 := Lib.hid (ht.drew.set_ (T' := partT k (j + 1) (fun i j => Ta i j || Tb i j) (fun _ _ => false)) hlt hlt2 (v := Tb k j) (fun a b _ _ => partT_step (by simp [hv]) a b))
            clear ht hv
            generalize Tb k j = tb at *
            go_wp2_with fail
            refine wp_region_still_tail 22 (by kernel_rfl) (by kernel_rfl) ?_
            simp only [List.take_succ_cons, List.take_zero, List.drop_succ_cons, List.drop_zero]
            repeat (refine wpStill_step (fun K hK => ?_); go_simp; refine hK _ ?_; clear hK K; try simp only [Act.put, List.getElem_toArray, List.getElem_cons_zero, List.getElem_cons_succ, List.setIfInBounds_toArray, List.set_cons_zero, List.set_cons_succ])
            try refine wpStill_nil ?_
            change wpList _ _ _ _ _ wr.drew
            go_wp2
            go_roundw
            case rel => exact ⟨j + 1, by omega, by go_num, HT2.out, hbw.trans ⟨rfl, rfl, rfl, by simp [World.setCell], fun i hi => Below.heap_setCell wr _ _ i (by show i ≠ ro k; omega)⟩⟩
            case measure => simp [intOf]; omega
          · rw [hv] at a1
            have HT2 := Lib.hid (ht.drew.set_ (T' := partT k (j + 1) (fun i j => Ta i j || Tb i j) (fun _ _ => false)) hlt hlt2 (v := true) (fun a b _ _ => partT_step (by simp [hv]) a b))
            clear ht hv
            go_wp2_with fail
            go_region
            go_wp2
            go_roundw
            case rel => exact ⟨j + 1, by omega, by go_num, HT2.out, hbw.trans ⟨rfl, rfl, rfl, by simp [World.setCell], fun i hi => Below.heap_setCell wr _ _ i (by show i ≠ ro k; omega)⟩⟩
            case measure => simp [intOf]; omega
        · obtain rfl : n = j := by omega
          have hlt2' : ¬ (n : Int) < (n : Int) := by omega
          have HT2 := Lib.hid (ht.congr (T' := partT (k + 1) 0 (fun i j => Ta i j || Tb i j) (fun _ _ => false)) (fun a b _ hb => partT_row a b hb))
          clear ht
          go_wp2
          go_roundw
          case rel => exact ⟨k + 1, by omega, by go_num, HT2.out, hbw⟩
          case measure => simp [intOf]; omega
    · obtain rfl : n = k := by omega
      have hlt' : ¬ (n : Int) < (n : Int) := by omega
      have HT2 := Lib.hid (ht.congr (T' := fun i j => Ta i j || Tb i j) (fun a b ha _ => (partT_full (G := fun i j => Ta i j || Tb i j) (F := fun _ _ => false) a b ha).symm))
      clear ht
      go_wp2
      go_ret
      exact ⟨g, ro, c, rfl, HC.out, HT2.out, hbw⟩
end Go.Proofs.Ytgcbcdbfeaepkaa
